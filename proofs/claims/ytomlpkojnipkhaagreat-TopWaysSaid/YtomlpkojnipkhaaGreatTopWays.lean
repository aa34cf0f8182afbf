/- roundhousetop.TopWays answers true for every row, any two numbers; no condition. -/
import Derived.Test.YtomlpkojnipkhaaGreatGa
import Derived.Test.YtomlpkojnipkhaaGreatTopWyM
import Derived.Deep.LoopGhost
import Derived.Deep.CutRange
import Derived.Deep.CutBlock
import Derived.IntWalk
import Derived.BigQuiet
import Derived.Deep.RegionHeld3
import Derived.Deep.Cut
namespace Go.Proofs.YtomlpkojnipkhaaGreat.topWays
set_option linter.unusedVariables false
set_option linter.unusedSimpArgs false
open Go.RowKit Go.ChangeShapes Go.WideShapes Go.ChangeAt

attribute [local irreducible] FA FL mkBO
set_option maxRecDepth 100000 in
set_option maxHeartbeats 8000000 in
theorem walk (W : World) (A1 : Option Addr) (n1 c1 : Nat) (g1 : Nat → Int) (hn1 : n1 ≤ c1) (hc1 : c1 ≤ maxLen) (hr1 : Is W A1 n1 g1) (hg1 : IsI g1) (hl1 : ∀ ad, A1 = some ad → 0 < n1 → ad.block < W.heap.size) (re1 : c1 * 8 ≤ 140737488351232) (a0 : Int) (r_a0 : -9223372036854775808 ≤ a0 ∧ a0 ≤ 9223372036854775807) (b0 : Int) (r_b0 : -9223372036854775808 ≤ b0 ∧ b0 ≤ 9223372036854775807) :
    Calls Tryz.prog 3 #[.slice A1 n1 c1, .int .i64 a0, .int .i64 b0] W fun e w' => e = .returned (.bool true) ∧ Below W.heap.size W w' := by
  obtain ⟨p, hp⟩ : ∃ p, p = mkP g1 (min n1 60) := ⟨_, rfl⟩
  have HPI := hid (show Pinv p 60 from by rw [hp]; exact (mkP_inv g1 _).mono (by omega))
  have HPC := hid (show p.a = 10 ∧ p.p = 80 from by rw [hp]; exact mkP_ap g1 _)
  have HPT := hid (show Pt p from by rw [hp]; exact mkP_pt g1 _ (by omega))
  have HPW := hid (show Pw p from by rw [hp]; exact mk_pw g1 _)
  have MK := hid (fun (w : World) (hb : Below W.heap.size W w) => (show Calls Tryz.prog 10 #[.slice A1 n1 c1, .int .i64 60] w fun x w' => x = .returned (.agg (FA 330 (pc p))) ∧ Below w.heap.size w w' from by rw [hp]; exact mk_top W A1 n1 c1 g1 hr1 hl1 hn1 hc1 60 (by decide) w hb))
  clear hp hr1 hl1 hg1 re1 hn1 hc1
  have S0 : Hid (HS [] W W []) := hid HS.start
  go_enter Tryz.func3, Tryz.ntmps3
  go_wp2_with fail
  refine (known_t _).mono ?_
  rintro e w1 ⟨rfl, hb⟩
  have S1 : Hid (HS [] W w1 []) := hid (S0.out.below hb)
  clear hb S0
  go_simp
  go_wp2_with fail
  refine (MK.out _ S1.out.bl).mono ?_
  rintro e w2 ⟨rfl, hb⟩
  have S2 : Hid (HS [] W w2 []) := hid (S1.out.below hb)
  clear hb S1 MK
  go_simp
  go_upto_region 4 with (first | ((with_reducible refine wl_id ?_); refine wl_ow rfl (ow_alloc rfl (zpl2 _) (by omega) S2.out ?_); intro P w_ hZ _; have SA := hid hZ; clear hZ) | ((with_reducible refine wl_id ?_); refine wl_ow rfl (ow_store (A := []) 0 330 (pc p) (pc p) rfl rfl rfl SA.out (by omega) (fun j hj => patch_all _ _ _ j hj) info_pl2 (pc_one _) ?_); intro w_ hZ; have SX := hid hZ; clear hZ))
  have S3 : Hid (HS [] W _ [thB P 330 (pc p)]) := hid (SX.out)
  clear SX SA S2
  go_wp2_with ((with_reducible refine wl_id ?_); refine wl_ow rfl (ow_load 0 rfl 0 330 (pc p) rfl rfl S3.out (by omega) (fun j hj => by rw [Nat.zero_add]) Tryz.underlying33 rfl info_pl2 ?_))
  refine (c_in S3.out p HPT.out a0 b0 r_a0 r_b0).mono ?_
  rintro e w3 ⟨x, AO, cO, AD, cD, bD, rfl, hcO, hI, hz⟩
  have S4 : Hid (HS [] W w3 [thY (.slice AO x.no cO) x.no x.go, thR bD AD x.nd x.gd, thB P 330 (pc p)]) := hid (hz)
  clear hz S3
  have HCO := hid hcO
  have HI := hid hI
  clear hcO hI
  go_simp
  go_upto_region 5 with (first | ((with_reducible refine wl_id ?_); refine wl_ow rfl (ow_allocC rfl (zPk _) (by simp) S4.out ?_); intro X w_ hZ _; have SY := hid hZ; clear hZ) | ((with_reducible refine wl_id ?_); refine wl_ow rfl (ow_storeC (A := []) [.int .i64 x.kind, .int .i64 x.life, .int .i64 x.piece, .int .i64 x.src, .int .i64 x.dst, .int .i64 x.fp, .int .i64 x.tp, .int .i64 x.flags, .int .i64 x.label, .bool x.bare, .int .i64 x.code, .slice AO x.no cO, .slice AD x.nd cD] rfl rfl (rfl) SY.out rfl iPk rfl ?_); intro w_ hZ; have SX := hid hZ; clear hZ))
  have S5 : Hid (HS [] W _ [thC X [.int .i64 x.kind, .int .i64 x.life, .int .i64 x.piece, .int .i64 x.src, .int .i64 x.dst, .int .i64 x.fp, .int .i64 x.tp, .int .i64 x.flags, .int .i64 x.label, .bool x.bare, .int .i64 x.code, .slice AO x.no cO, .slice AD x.nd cD], thY (.slice AO x.no cO) x.no x.go, thR bD AD x.nd x.gd, thB P 330 (pc p)]) := hid (SX.out)
  clear SX SY S4
  have hf := (S5.out.ce 0 rfl).2.2 1
  have hy := (S5.out.ce 0 rfl).2.1 1 _ rfl
  have hl := (S5.out.ce 0 rfl).1
  go_upto_region 6 with (fail)
  clear hf hy hl
  have S6 : Hid (HS [] W _ [thC X [.int .i64 x.kind, .int .i64 9, .int .i64 x.piece, .int .i64 x.src, .int .i64 x.dst, .int .i64 x.fp, .int .i64 x.tp, .int .i64 x.flags, .int .i64 x.label, .bool x.bare, .int .i64 x.code, .slice AO x.no cO, .slice AD x.nd cD], thY (.slice AO x.no cO) x.no x.go, thR bD AD x.nd x.gd, thB P 330 (pc p)]) := hid (HS.setC (A := []) S5.out 1 (.int .i64 9) (by simp))
  clear S5
  have hsp : (0 ≤ p.a ∧ p.a ≤ 4294967295) ∧ (0 ≤ p.p ∧ p.p ≤ 65535) := ⟨HPT.out.2.2.2.1, HPT.out.2.2.2.2⟩
  obtain ⟨y, hy⟩ : ∃ y : Pk, y = { x with life := 9 } := ⟨_, rfl⟩
  have hM : Mkd y := by rw [hy]; exact ⟨HI.out.md.kd, HI.out.md.tp, HI.out.md.fl, HI.out.md.lb, HI.out.md.cl, HI.out.md.go, HI.out.md.gd, HI.out.md.no, HI.out.md.nd⟩
  obtain ⟨yE, yC, yl1, yl2, _⟩ := kd_E hM (by rw [hy]; show (0 : Int) ≤ 9 ∧ (9 : Int) ≤ 255; decide) (by rw [hy]; exact HI.out.pc) (by rw [hy]; exact HI.out.src) (by rw [hy]; show 0 ≤ x.dst ∧ _; rw [HI.out.dst]; exact hsp.1) (by rw [hy]; exact HI.out.fp)
  obtain ⟨G1, hG1⟩ : ∃ G, G = builtF y := ⟨_, rfl⟩
  obtain ⟨n, hn⟩ : ∃ n, n = lenP y := ⟨_, rfl⟩
  have yq := built_parseE hM.gd hM.go yE
  have ype := built_parse hM.gd hM.go yE yC
  rw [← hG1, ← hn] at yq ype
  have BG := hid (show IsB G1 from by rw [hG1]; exact x_B hM.gd hM.go yE)
  have KG := hid (show G1 0 = x.kind from by rw [hG1, built_hd (by omega), raw_0, hy])
  have TK := hid (show takeT p true (fun _ => none) G1 n = inT p (fun _ => none) G1 n y from take_in yq ype (by rw [hy]; exact HI.out.pc) (by rw [hy]; show (1 : Int) < 9; decide) (by rw [hy]; show x.kind ≠ 3; rcases HI.out.md.kd with j | j <;> omega) (by rw [hy]; exact ⟨HI.out.dst, HI.out.tp⟩))
  have BLD := hid (fun (w : World) (L : List Th) (h : HS [] W w L) (HO : By w AO x.no x.go) (HD : By w AD x.nd x.gd) => (show Calls Tryz.prog 12 #[.agg #[.int .i64 x.kind, .int .i64 9, .int .i64 x.piece, .int .i64 x.src, .int .i64 x.dst, .int .i64 x.fp, .int .i64 x.tp, .int .i64 x.flags, .int .i64 x.label, .bool x.bare, .int .i64 x.code, .slice AO x.no cO, .slice AD x.nd cD]] w fun e w' => ∃ A c, e = .returned (.tuple #[.slice A n c, .int .i64 0]) ∧ HS [] W w' (thY (.slice A n c) n G1 :: L) ∧ n ≤ c from c_build h { x with life := 9 } n G1 (by rw [hn, hy]) (by rw [hG1, hy]) (by rw [← hy]; exact yE) HI.out.md.go HI.out.md.gd (Nat.le_trans HI.out.md.no (by decide)) (Nat.le_trans HI.out.md.nd (by decide)) AO cO AD cD HO HD))
  have N15 := hid (show n ≤ 1000000 from by omega)
  have fI : (flP p x.src x.fp).I := ⟨⟨by show _ ≤ x.src; have := HI.out.src; omega, by show x.src ≤ _; have := HI.out.src; omega⟩, ⟨by show _ ≤ x.fp; have := HI.out.fp; omega, by show x.fp ≤ _; have := HI.out.fp; omega⟩, ⟨by show _ ≤ p.a; omega, by show p.a ≤ _; omega⟩, ⟨by show _ ≤ p.p; omega, by show p.p ≤ _; omega⟩⟩
  have RDC := hid (fun (w : World) (c : Int) => (show Calls Tryz.prog 18 #[.agg #[.int .i64 p.r.e, .int .u64 p.r.p.a, .int .u64 p.r.p.b, .int .u64 p.r.c.a, .int .u64 p.r.c.b, .int .u64 p.r.n.a, .int .u64 p.r.n.b], .int .i64 x.kind, .agg #[.int .i64 x.src, .int .i64 x.fp, .int .i64 p.a, .int .i64 p.p], .int .i64 c] w fun e w' => e = .returned (.tuple #[.int .i64 ((readC (tkT x.kind) p.r x.kind (flP p x.src x.fp) c).getD 0), .bool (readC (tkT x.kind) p.r x.kind (flP p x.src x.fp) c).isSome]) ∧ Below w.heap.size w w' from c_read HPT.out HI.out.md.kd fI c w))
  have FLO := hid (fun (w : World) => (show Calls Tryz.prog 19 #[.agg (FA 330 (pc p)), .agg #[.int .i64 x.kind, .int .i64 9, .int .i64 x.piece, .int .i64 x.src, .int .i64 x.dst, .int .i64 x.fp, .int .i64 x.tp, .int .i64 x.flags, .int .i64 x.label, .bool x.bare, .int .i64 x.code, .slice AO x.no cO, .slice AD x.nd cD]] w fun e w' => e = .returned (.agg #[.int .i64 x.src, .int .i64 x.fp, .int .i64 p.a, .int .i64 p.p]) ∧ Below w.heap.size w w' from tflow_any p _ _ _ _ _ _ _ _ _ _ _ _ _ w))
  have RMW := hid (fun (w : World) => (show Calls Tryz.prog 22 #[.agg (FA 330 (pc p))] w fun x w' => ∃ B : Nat, x = .returned (.slice (some ⟨B, 0, none⟩) 127 127) ∧ w.heap.size ≤ B ∧ IA w' B 127 (whlW p) ∧ Below w.heap.size w w' from rmake_fa p HPW.out w))
  obtain ⟨wv, hwv⟩ : ∃ v, v = whlW p (pkW (flP p x.src x.fp)).toNat := ⟨_, rfl⟩
  have RPK := hid (fun (w : World) (B : Nat) (h : IA w B 127 (whlW p)) => (show Calls Tryz.prog 21 #[.slice (some ⟨B, 0, none⟩) 127 127, .agg #[.int .i64 x.src, .int .i64 x.fp, .int .i64 p.a, .int .i64 p.p]] w fun e w' => e = .returned (.int .i64 wv) ∧ Below w.heap.size w w' from by rw [hwv]; exact rpick_any (some ⟨B, 0, none⟩) 127 (whlW p) (flP p x.src x.fp) fI w h.slice))
  have hwb : wv = -1 ∨ ∃ k : Nat, k < 64 ∧ wv = k := by rw [hwv]; exact whl_k p _
  have HWV := hid hwv
  have HWB := hid hwb
  have HY := hid hy
  clear hsp hM yE yC yl1 yl2 yq ype hG1 hn fI hwv hwb hy
  obtain ⟨y0, y1, y2, y3, y4, y5, y6, y7, y8, y9, y10, y11, y12⟩ := (S6.out.ce 0 rfl).c13
  go_wp2_with fail
  refine (BLD.out _ _ S6.out (S6.out.by_ 1 rfl) (S6.out.byR 2 rfl)).mono ?_
  rintro e w5 ⟨AQ, cQ, rfl, hz, hcc⟩
  have S7 : Hid (HS [] W w5 [thY (.slice AQ n cQ) n G1, thC X [.int .i64 x.kind, .int .i64 9, .int .i64 x.piece, .int .i64 x.src, .int .i64 x.dst, .int .i64 x.fp, .int .i64 x.tp, .int .i64 x.flags, .int .i64 x.label, .bool x.bare, .int .i64 x.code, .slice AO x.no cO, .slice AD x.nd cD], thY (.slice AO x.no cO) x.no x.go, thR bD AD x.nd x.gd, thB P 330 (pc p)]) := hid (hz)
  clear hz S6 y0 y1 y2 y3 y4 y5 y6 y7 y8 y9 y10 y11 y12 BLD
  have HCQ := hid hcc
  clear hcc
  go_simp
  go_wp2_with fail
  refine (plane_new S7.out).mono ?_
  rintro e w6 ⟨pb, rfl, hz⟩
  have S8 : Hid (HS [] W w6 [thB pb 130 (plc none false nr0), thY (.slice AQ n cQ) n G1, thC X [.int .i64 x.kind, .int .i64 9, .int .i64 x.piece, .int .i64 x.src, .int .i64 x.dst, .int .i64 x.fp, .int .i64 x.tp, .int .i64 x.flags, .int .i64 x.label, .bool x.bare, .int .i64 x.code, .slice AO x.no cO, .slice AD x.nd cD], thY (.slice AO x.no cO) x.no x.go, thR bD AD x.nd x.gd, thB P 330 (pc p)]) := hid (hz)
  clear hz S7
  go_simp
  go_upto_region 10 with (fail)
  go_wp2_with ((with_reducible refine wl_id ?_); refine wl_ow rfl (ow_load 5 rfl 0 330 (pc p) rfl rfl S8.out (by omega) (fun j hj => by rw [Nat.zero_add]) Tryz.underlying33 rfl info_pl2 ?_))
  refine (c_load (A := []) (nr := fun _ => none) S8.out p HPW.out).mono ?_
  rintro e w7 ⟨rfl, sb, wb, hne, hz⟩
  have S9 : Hid (HS [] W w7 [thS sb wb p, thB pb 130 (plf sb (fun _ => none)), thY (.slice AQ n cQ) n G1, thC X [.int .i64 x.kind, .int .i64 9, .int .i64 x.piece, .int .i64 x.src, .int .i64 x.dst, .int .i64 x.fp, .int .i64 x.tp, .int .i64 x.flags, .int .i64 x.label, .bool x.bare, .int .i64 x.code, .slice AO x.no cO, .slice AD x.nd cD], thY (.slice AO x.no cO) x.no x.go, thR bD AD x.nd x.gd, thB P 330 (pc p)]) := hid (hz)
  clear hz S8
  have HNE := hid hne
  clear hne
  go_simp
  go_upto_region 11 with (fail)
  have HN0 := hid (show Nt32 (fun _ => none) from fun j v h => by cases h)
  obtain ⟨tt, htt⟩ : ∃ t, t = inT p (fun _ => none) G1 n y := ⟨_, rfl⟩
  have TT := hid htt
  clear htt
  have TK2 := hid (TK.out.trans TT.out.symm)
  clear TK
  go_wp2_with fail
  refine (c_take (A := [thS sb wb p]) (B := [thY (.slice AQ n cQ) n G1, thC X [.int .i64 x.kind, .int .i64 9, .int .i64 x.piece, .int .i64 x.src, .int .i64 x.dst, .int .i64 x.fp, .int .i64 x.tp, .int .i64 x.flags, .int .i64 x.label, .bool x.bare, .int .i64 x.code, .slice AO x.no cO, .slice AD x.nd cD], thY (.slice AO x.no cO) x.no x.go, thR bD AD x.nd x.gd, thB P 330 (pc p)]) S9.out (S9.out.st 0 rfl) HNE.out HPT.out HN0.out G1 n cQ AQ BG.out N15.out (fun _ => by rw [KG.out]; rcases HI.out.md.kd with j | j <;> omega) (S9.out.by_ 2 rfl) HCQ.out tt TK2.out).mono ?_
  rintro e w8 ⟨AR, cR, rfl, hz, hcc⟩
  have S10 : Hid (HS [] W w8 [thY (.slice AR tt.n cR) tt.n tt.f, thS sb wb p, thB pb 130 (plf sb tt.nr), thY (.slice AQ n cQ) n G1, thC X [.int .i64 x.kind, .int .i64 9, .int .i64 x.piece, .int .i64 x.src, .int .i64 x.dst, .int .i64 x.fp, .int .i64 x.tp, .int .i64 x.flags, .int .i64 x.label, .bool x.bare, .int .i64 x.code, .slice AO x.no cO, .slice AD x.nd cD], thY (.slice AO x.no cO) x.no x.go, thR bD AD x.nd x.gd, thB P 330 (pc p)]) := hid (hz)
  clear hz hcc S9
  go_simp
  go_upto_region 12 with (first | ((with_reducible refine wl_id ?_); refine wl_ow rfl (ow_allocC rfl (zOc _) (by simp) S10.out ?_); intro V w_ hZ _; have SY := hid hZ; clear hZ) | ((with_reducible refine wl_id ?_); refine wl_ow rfl (ow_storeC (A := []) [.int .i64 tt.d, .int .i64 tt.s, .bool tt.c, .slice AR tt.n cR] rfl rfl (rfl) SY.out rfl iOc rfl ?_); intro w_ hZ; have SX := hid hZ; clear hZ))
  have S11 : Hid (HS [] W _ [thC V [.int .i64 tt.d, .int .i64 tt.s, .bool tt.c, .slice AR tt.n cR], thY (.slice AR tt.n cR) tt.n tt.f, thS sb wb p, thB pb 130 (plf sb tt.nr), thY (.slice AQ n cQ) n G1, thC X [.int .i64 x.kind, .int .i64 9, .int .i64 x.piece, .int .i64 x.src, .int .i64 x.dst, .int .i64 x.fp, .int .i64 x.tp, .int .i64 x.flags, .int .i64 x.label, .bool x.bare, .int .i64 x.code, .slice AO x.no cO, .slice AD x.nd cD], thY (.slice AO x.no cO) x.no x.go, thR bD AD x.nd x.gd, thB P 330 (pc p)]) := hid (SX.out)
  clear SX SY S10
  have S12 : Hid (HS [] W _ [thC V [.int .i64 tt.d, .int .i64 tt.s, .bool tt.c, .slice AR tt.n cR], thS sb wb p, thB pb 130 (plf sb tt.nr), thY (.slice AQ n cQ) n G1, thC X [.int .i64 x.kind, .int .i64 9, .int .i64 x.piece, .int .i64 x.src, .int .i64 x.dst, .int .i64 x.fp, .int .i64 x.tp, .int .i64 x.flags, .int .i64 x.label, .bool x.bare, .int .i64 x.code, .slice AO x.no cO, .slice AD x.nd cD], thY (.slice AO x.no cO) x.no x.go, thR bD AD x.nd x.gd, thB P 330 (pc p)]) := hid (HS.drop (A := [thC V [.int .i64 tt.d, .int .i64 tt.s, .bool tt.c, .slice AR tt.n cR]]) (t := thY (.slice AR tt.n cR) tt.n tt.f) (B := [thS sb wb p, thB pb 130 (plf sb tt.nr), thY (.slice AQ n cQ) n G1, thC X [.int .i64 x.kind, .int .i64 9, .int .i64 x.piece, .int .i64 x.src, .int .i64 x.dst, .int .i64 x.fp, .int .i64 x.tp, .int .i64 x.flags, .int .i64 x.label, .bool x.bare, .int .i64 x.code, .slice AO x.no cO, .slice AD x.nd cD], thY (.slice AO x.no cO) x.no x.go, thR bD AD x.nd x.gd, thB P 330 (pc p)]) S11.out)
  clear S11
  have S13 : Hid (HS [] W _ [thC V [.int .i64 tt.d, .int .i64 tt.s, .bool tt.c, .slice AR tt.n cR], thB pb 130 (plf sb tt.nr), thY (.slice AQ n cQ) n G1, thC X [.int .i64 x.kind, .int .i64 9, .int .i64 x.piece, .int .i64 x.src, .int .i64 x.dst, .int .i64 x.fp, .int .i64 x.tp, .int .i64 x.flags, .int .i64 x.label, .bool x.bare, .int .i64 x.code, .slice AO x.no cO, .slice AD x.nd cD], thY (.slice AO x.no cO) x.no x.go, thR bD AD x.nd x.gd, thB P 330 (pc p)]) := hid (HS.drop (A := [thC V [.int .i64 tt.d, .int .i64 tt.s, .bool tt.c, .slice AR tt.n cR]]) (t := thS sb wb p) (B := [thB pb 130 (plf sb tt.nr), thY (.slice AQ n cQ) n G1, thC X [.int .i64 x.kind, .int .i64 9, .int .i64 x.piece, .int .i64 x.src, .int .i64 x.dst, .int .i64 x.fp, .int .i64 x.tp, .int .i64 x.flags, .int .i64 x.label, .bool x.bare, .int .i64 x.code, .slice AO x.no cO, .slice AD x.nd cD], thY (.slice AO x.no cO) x.no x.go, thR bD AD x.nd x.gd, thB P 330 (pc p)]) S12.out)
  clear S12
  have S14 : Hid (HS [] W _ [thC V [.int .i64 tt.d, .int .i64 tt.s, .bool tt.c, .slice AR tt.n cR], thY (.slice AQ n cQ) n G1, thC X [.int .i64 x.kind, .int .i64 9, .int .i64 x.piece, .int .i64 x.src, .int .i64 x.dst, .int .i64 x.fp, .int .i64 x.tp, .int .i64 x.flags, .int .i64 x.label, .bool x.bare, .int .i64 x.code, .slice AO x.no cO, .slice AD x.nd cD], thY (.slice AO x.no cO) x.no x.go, thR bD AD x.nd x.gd, thB P 330 (pc p)]) := hid (HS.drop (A := [thC V [.int .i64 tt.d, .int .i64 tt.s, .bool tt.c, .slice AR tt.n cR]]) (t := thB pb 130 (plf sb tt.nr)) (B := [thY (.slice AQ n cQ) n G1, thC X [.int .i64 x.kind, .int .i64 9, .int .i64 x.piece, .int .i64 x.src, .int .i64 x.dst, .int .i64 x.fp, .int .i64 x.tp, .int .i64 x.flags, .int .i64 x.label, .bool x.bare, .int .i64 x.code, .slice AO x.no cO, .slice AD x.nd cD], thY (.slice AO x.no cO) x.no x.go, thR bD AD x.nd x.gd, thB P 330 (pc p)]) S13.out)
  clear S13
  have S15 : Hid (HS [] W _ [thC V [.int .i64 tt.d, .int .i64 tt.s, .bool tt.c, .slice AR tt.n cR], thC X [.int .i64 x.kind, .int .i64 9, .int .i64 x.piece, .int .i64 x.src, .int .i64 x.dst, .int .i64 x.fp, .int .i64 x.tp, .int .i64 x.flags, .int .i64 x.label, .bool x.bare, .int .i64 x.code, .slice AO x.no cO, .slice AD x.nd cD], thY (.slice AO x.no cO) x.no x.go, thR bD AD x.nd x.gd, thB P 330 (pc p)]) := hid (HS.drop (A := [thC V [.int .i64 tt.d, .int .i64 tt.s, .bool tt.c, .slice AR tt.n cR]]) (t := thY (.slice AQ n cQ) n G1) (B := [thC X [.int .i64 x.kind, .int .i64 9, .int .i64 x.piece, .int .i64 x.src, .int .i64 x.dst, .int .i64 x.fp, .int .i64 x.tp, .int .i64 x.flags, .int .i64 x.label, .bool x.bare, .int .i64 x.code, .slice AO x.no cO, .slice AD x.nd cD], thY (.slice AO x.no cO) x.no x.go, thR bD AD x.nd x.gd, thB P 330 (pc p)]) S14.out)
  clear S14
  try simp only [Act.put, List.setIfInBounds_toArray, List.set_cons_zero, List.set_cons_succ]
  go_upto_region 12 with (fail)
  go_cut [13, 14] from 49 to 53 (fun v u wx => v = .int .i64 x.label ∧ u = .bool (x.label != 0) ∧ HS [] W wx [thC V [.int .i64 tt.d, .int .i64 tt.s, .bool tt.c, .slice AR tt.n cR], thC X [.int .i64 x.kind, .int .i64 9, .int .i64 x.piece, .int .i64 x.src, .int .i64 x.dst, .int .i64 x.fp, .int .i64 x.tp, .int .i64 x.flags, .int .i64 x.label, .bool x.bare, .int .i64 x.code, .slice AO x.no cO, .slice AD x.nd cD], thY (.slice AO x.no cO) x.no x.go, thR bD AD x.nd x.gd, thB P 330 (pc p)])
  case first =>
    have y8 := (S15.out.ce 1 rfl).2.1 8 _ rfl
    go_quiet (fail)
    go_wp2_with fail
    go_meet
    exact ⟨rfl, rfl, S15.out.drewN _⟩
  case rest =>
    obtain ⟨rfl, rfl, hz⟩ := hcut
    have S16 : Hid (HS [] W _ [thC V [.int .i64 tt.d, .int .i64 tt.s, .bool tt.c, .slice AR tt.n cR], thC X [.int .i64 x.kind, .int .i64 9, .int .i64 x.piece, .int .i64 x.src, .int .i64 x.dst, .int .i64 x.fp, .int .i64 x.tp, .int .i64 x.flags, .int .i64 x.label, .bool x.bare, .int .i64 x.code, .slice AO x.no cO, .slice AD x.nd cD], thY (.slice AO x.no cO) x.no x.go, thR bD AD x.nd x.gd, thB P 330 (pc p)]) := hid (hz)
    clear hz S15
    have y0 := (S16.out.ce 1 rfl).2.1 0 _ rfl
    go_upto_if 56 with (fail)
    clear y0
    go_cut [13, 14, 15, 16, 17, 18] from 54 to 75 (fun v u s1 s2 s3 s4 wx => ∃ (c : Int) (may : Bool), v = .int .i64 c ∧ u = .bool may ∧ carT x = (if may = true then some c else none) ∧ HS [] W wx [thC V [.int .i64 tt.d, .int .i64 tt.s, .bool tt.c, .slice AR tt.n cR], thC X [.int .i64 x.kind, .int .i64 9, .int .i64 x.piece, .int .i64 x.src, .int .i64 x.dst, .int .i64 x.fp, .int .i64 x.tp, .int .i64 x.flags, .int .i64 x.label, .bool x.bare, .int .i64 x.code, .slice AO x.no cO, .slice AD x.nd cD], thY (.slice AO x.no cO) x.no x.go, thR bD AD x.nd x.gd, thB P 330 (pc p)])
    case first =>
      cases k1 : (x.kind == 1)
      · have hk2 : x.kind = 2 := by rcases HI.out.md.kd with j | j; rw [j] at k1; exact absurd k1 (by decide); exact j
        have hc : carT x = (if (x.label != 0) = true then some x.label else none) := by unfold carT; rw [if_pos hk2]; by_cases h : x.label = 0 <;> simp [h]
        have HC := hid hc
        clear hc hk2
        go_wp2_with fail
        go_meet
        exact ⟨x.label, _, rfl, rfl, HC.out, S16.out⟩
      · have hk1 : x.kind = 1 := by simpa using k1
        have hge := (st_u32 HI.out.md.go).2
        have STM := hid (fun (w : World) (h : By w AO x.no x.go) => stamp_any AO x.no cO x.go w h HI.out.md.go (Nat.le_trans HI.out.md.no (by decide)) HCO.out)
        unfold StV at STM
        have hc : carT x = (if ((stO x).2.2.2 && (x.flags != 1)) = true then some ((stO x).2.2.1 % 1048576) else none) := by unfold carT; rw [if_neg (by omega)]; by_cases h : x.flags = 1 <;> by_cases h2 : (stO x).2.2.2 = true <;> simp [h, h2]
        obtain ⟨st, hst⟩ : ∃ s, s = stO x := ⟨_, rfl⟩
        rw [← hst] at hc hge
        have STN : Hid (∀ (w : World), By w AO x.no x.go → Calls Tryz.prog 16 #[.slice AO x.no cO] w fun e w' => e = .returned (.tuple #[.int .i64 st.1, .int .u32 st.2.1, .int .u32 st.2.2.1, .bool st.2.2.2]) ∧ Below w.heap.size w w') := hid (by rw [hst]; exact STM.out)
        have HC := hid hc
        clear hc hk1 hst STM
        have GT := hid (fun (w : World) => get_any st.2.2.1 hge w)
        clear hge
        have y11 := (S16.out.ce 1 rfl).2.1 11 _ rfl
        go_wp2_with fail
        refine (STN.out _ (S16.out.by_ 2 rfl)).mono ?_
        rintro e w10 ⟨rfl, hb⟩
        have S17 : Hid (HS [] W w10 [thC V [.int .i64 tt.d, .int .i64 tt.s, .bool tt.c, .slice AR tt.n cR], thC X [.int .i64 x.kind, .int .i64 9, .int .i64 x.piece, .int .i64 x.src, .int .i64 x.dst, .int .i64 x.fp, .int .i64 x.tp, .int .i64 x.flags, .int .i64 x.label, .bool x.bare, .int .i64 x.code, .slice AO x.no cO, .slice AD x.nd cD], thY (.slice AO x.no cO) x.no x.go, thR bD AD x.nd x.gd, thB P 330 (pc p)]) := hid (S16.out.below hb)
        clear hb y11 STN
        go_simp
        go_wp2_with fail
        refine (GT.out _).mono ?_
        rintro e w11 ⟨rfl, hb⟩
        have S18 : Hid (HS [] W w11 [thC V [.int .i64 tt.d, .int .i64 tt.s, .bool tt.c, .slice AR tt.n cR], thC X [.int .i64 x.kind, .int .i64 9, .int .i64 x.piece, .int .i64 x.src, .int .i64 x.dst, .int .i64 x.fp, .int .i64 x.tp, .int .i64 x.flags, .int .i64 x.label, .bool x.bare, .int .i64 x.code, .slice AO x.no cO, .slice AD x.nd cD], thY (.slice AO x.no cO) x.no x.go, thR bD AD x.nd x.gd, thB P 330 (pc p)]) := hid (S17.out.below hb)
        clear hb GT
        have y7 := (S18.out.ce 1 rfl).2.1 7 _ rfl
        go_simp
        cases e4 : st.2.2.2
        · rw [e4] at HC
          go_wp2_with fail
          go_meet
          exact ⟨_, _, rfl, rfl, HC.out, S18.out⟩
        · rw [e4, Bool.true_and] at HC
          go_wp2_with fail
          go_meet
          exact ⟨_, _, rfl, rfl, HC.out, S18.out⟩
    case rest =>
      obtain ⟨c, may, rfl, rfl, hcar, hz⟩ := hcut
      have S17 : Hid (HS [] W _ [thC V [.int .i64 tt.d, .int .i64 tt.s, .bool tt.c, .slice AR tt.n cR], thC X [.int .i64 x.kind, .int .i64 9, .int .i64 x.piece, .int .i64 x.src, .int .i64 x.dst, .int .i64 x.fp, .int .i64 x.tp, .int .i64 x.flags, .int .i64 x.label, .bool x.bare, .int .i64 x.code, .slice AO x.no cO, .slice AD x.nd cD], thY (.slice AO x.no cO) x.no x.go, thR bD AD x.nd x.gd, thB P 330 (pc p)]) := hid (hz)
      clear hz S16
      have HCAR := hid hcar
      clear hcar
      have RDK := hid (fun w => RDC.out w c)
      obtain ⟨ro, hro⟩ : ∃ o, o = readC (tkT x.kind) p.r x.kind (flP p x.src x.fp) c := ⟨_, rfl⟩
      rw [← hro] at RDK
      have hrb : ∀ s, ro = some s → 0 ≤ s ∧ s < 64 := fun s h => read_bd _ _ _ _ _ _ (hro.symm.trans h)
      have HRO := hid hro
      have HRB := hid hrb
      clear hro hrb RDC
      go_upto_region 17 with (fail)
      refine wp_region_held_drew (S := fun (w' : World) => HS [] W w' [thC V [.int .i64 tt.d, .int .i64 tt.s, .bool tt.c, .slice AR tt.n cR], thC X [.int .i64 x.kind, .int .i64 9, .int .i64 x.piece, .int .i64 x.src, .int .i64 x.dst, .int .i64 x.fp, .int .i64 x.tp, .int .i64 x.flags, .int .i64 x.label, .bool x.bare, .int .i64 x.code, .slice AO x.no cO, .slice AD x.nd cD], thY (.slice AO x.no cO) x.no x.go, thR bD AD x.nd x.gd, thB P 330 (pc p)]) (by kernel_rfl) ?_ (fun hHeld => ?_)
      · exact S17.out.drew
      refine tkq 0 hHeld ?_
      refine tkq 1 hHeld ?_ (hy := by intro w hSw; (try dsimp only at hSw); obtain ⟨r0, r1, r2, r3, r4, r5, r6⟩ := (pool_fb (hSw.fb 4 rfl)).r7; go_simp; (try with_reducible rfl))
      refine tkq 2 hHeld ?_
      refine tkq 3 hHeld ?_ (hy := by intro w hSw; (try dsimp only at hSw); have x0 := (hSw.ce 1 rfl).2.1 0 _ rfl; go_simp; (try with_reducible rfl))
      refine tk 4 (v := .agg (FA 330 (pc p))) rfl (by kernel_rfl) (by kernel_rfl) (by kernel_rfl) (fun _ _ _ h => h) rfl (fun w hSw => ex_load rfl rfl ((hSw.fb 4 rfl).load 0 330 (pc p) (by omega) (fun j hj => by rw [Nat.zero_add]) Tryz.underlying33 rfl info_pl2)) hHeld ?_; (try simp only [Act.put, List.setIfInBounds_toArray, List.set_cons_zero, List.set_cons_succ])
      refine tkq 5 hHeld ?_ (hy := by intro w hSw; (try dsimp only at hSw); obtain ⟨y0, y1, y2, y3, y4, y5, y6, y7, y8, y9, y10, y11, y12⟩ := (hSw.ce 1 rfl).c13; go_simp; (try with_reducible rfl))
      refine tkq 7 hHeld ?_
      refine only 6 rfl (by kernel_rfl) rfl (fun K hK => ?_)
      go_simp
      refine (FLO.out _).mono ?_
      rintro e w12 ⟨rfl, hb⟩
      try go_wp2_with fail
      refine hK.out _ _ (hHeld.below hb) (fun h2 => ?_)
      clear hK hHeld hb
      try simp only [Act.put, List.setIfInBounds_toArray, List.set_cons_zero, List.set_cons_succ]
      refine only 8 rfl (by kernel_rfl) rfl (fun K hK => ?_)
      go_simp
      refine (RDK.out _).mono ?_
      rintro e w13 ⟨rfl, hb⟩
      try go_wp2_with fail
      refine hK.out _ _ (h2.below hb) (fun h3 => ?_)
      clear hK h2 hb
      try simp only [Act.put, List.setIfInBounds_toArray, List.set_cons_zero, List.set_cons_succ]
      refine tkq 9 h3 ?_
      refine tkq 10 h3 ?_
      refine tkq 11 h3 ?_
      refine tkq 12 h3 ?_
      refine tkq 13 h3 ?_
      have S18 : Hid (HS [] W _ [thC V [.int .i64 tt.d, .int .i64 tt.s, .bool tt.c, .slice AR tt.n cR], thC X [.int .i64 x.kind, .int .i64 9, .int .i64 x.piece, .int .i64 x.src, .int .i64 x.dst, .int .i64 x.fp, .int .i64 x.tp, .int .i64 x.flags, .int .i64 x.label, .bool x.bare, .int .i64 x.code, .slice AO x.no cO, .slice AD x.nd cD], thY (.slice AO x.no cO) x.no x.go, thR bD AD x.nd x.gd, thB P 330 (pc p)]) := hid (h3)
      clear h3 S17 RDK
      refine wpAnyH_done (by kernel_rfl) ?_ _
      cases may
      · have hbn : byT p y = none := by rw [HY.out]; exact by_no1 (by have h := HCAR.out; rw [if_neg (by decide)] at h; exact h)
        skip
        have HBN := hid hbn
        clear hbn
        go_upto_region 20 with (fail)
        refine wp_region_held_drew (S := fun (w' : World) => HS [] W w' [thC V [.int .i64 tt.d, .int .i64 tt.s, .bool tt.c, .slice AR tt.n cR], thC X [.int .i64 x.kind, .int .i64 9, .int .i64 x.piece, .int .i64 x.src, .int .i64 x.dst, .int .i64 x.fp, .int .i64 x.tp, .int .i64 x.flags, .int .i64 x.label, .bool x.bare, .int .i64 x.code, .slice AO x.no cO, .slice AD x.nd cD], thY (.slice AO x.no cO) x.no x.go, thR bD AD x.nd x.gd, thB P 330 (pc p)]) (by kernel_rfl) ?_ (fun hHeld => ?_)
        · exact S18.out.drew
        refine tk 0 (v := .agg (FA 330 (pc p))) rfl (by kernel_rfl) (by kernel_rfl) (by kernel_rfl) (fun _ _ _ h => h) rfl (fun w hSw => ex_load rfl rfl ((hSw.fb 4 rfl).load 0 330 (pc p) (by omega) (fun j hj => by rw [Nat.zero_add]) Tryz.underlying33 rfl info_pl2)) hHeld ?_; (try simp only [Act.put, List.setIfInBounds_toArray, List.set_cons_zero, List.set_cons_succ])
        refine tk 2 (v := .agg (FA 330 (pc p))) rfl (by kernel_rfl) (by kernel_rfl) (by kernel_rfl) (fun _ _ _ h => h) rfl (fun w hSw => ex_load rfl rfl ((hSw.fb 4 rfl).load 0 330 (pc p) (by omega) (fun j hj => by rw [Nat.zero_add]) Tryz.underlying33 rfl info_pl2)) hHeld ?_; (try simp only [Act.put, List.setIfInBounds_toArray, List.set_cons_zero, List.set_cons_succ])
        refine tkq 3 hHeld ?_ (hy := by intro w hSw; (try dsimp only at hSw); obtain ⟨y0, y1, y2, y3, y4, y5, y6, y7, y8, y9, y10, y11, y12⟩ := (hSw.ce 1 rfl).c13; go_simp; (try with_reducible rfl))
        refine only 1 rfl (by kernel_rfl) rfl (fun K hK => ?_)
        go_simp
        refine (RMW.out _).mono ?_
        rintro e w14 ⟨BW, rfl, _, hia, hb⟩
        try go_wp2_with fail
        refine hK.out _ _ (hHeld.below hb) (fun h2 => ?_)
        clear hK hHeld hb
        try simp only [Act.put, List.setIfInBounds_toArray, List.set_cons_zero, List.set_cons_succ]
        refine only 4 rfl (by kernel_rfl) rfl (fun K hK => ?_)
        go_simp
        refine (FLO.out _).mono ?_
        rintro e w15 ⟨rfl, hb⟩
        try go_wp2_with fail
        have hia2 := hia.below hb
        refine hK.out _ _ (h2.below hb) (fun h3 => ?_)
        clear hK h2 hb
        try simp only [Act.put, List.setIfInBounds_toArray, List.set_cons_zero, List.set_cons_succ]
        refine only 5 rfl (by kernel_rfl) rfl (fun K hK => ?_)
        go_simp
        refine (RPK.out _ BW hia2).mono ?_
        rintro e w16 ⟨rfl, hb⟩
        try go_wp2_with fail
        refine hK.out _ _ (h3.below hb) (fun h4 => ?_)
        clear hK h3 hb
        try simp only [Act.put, List.setIfInBounds_toArray, List.set_cons_zero, List.set_cons_succ]
        refine tkq 6 h4 ?_
        have S19 : Hid (HS [] W _ [thC V [.int .i64 tt.d, .int .i64 tt.s, .bool tt.c, .slice AR tt.n cR], thC X [.int .i64 x.kind, .int .i64 9, .int .i64 x.piece, .int .i64 x.src, .int .i64 x.dst, .int .i64 x.fp, .int .i64 x.tp, .int .i64 x.flags, .int .i64 x.label, .bool x.bare, .int .i64 x.code, .slice AO x.no cO, .slice AD x.nd cD], thY (.slice AO x.no cO) x.no x.go, thR bD AD x.nd x.gd, thB P 330 (pc p)]) := hid (h4)
        clear h4 S18 hia hia2
        refine wpAnyH_done (by kernel_rfl) ?_ _
        obtain ⟨f0, f1, f2, f3⟩ := (S19.out.ce 0 rfl).c4
        rcases HWB.out with hw | ⟨k, hk64, hw⟩
        · have ht : tt = dropT 9 (fun _ => none) := TT.out.trans (in_no HBN.out (by rw [HY.out]; exact HWV.out.symm.trans hw))
          have HW := hid hw
          rw [ht] at f0 f1
          subst hw
          clear ht
          dsimp only [dropT] at f0 f1
          have HQ := hid HWV.out
          clear HWV
          go_wp2_with fail
          go_ret
          exact ⟨by simp, S19.out.bl⟩
        · have ht : tt = _ := TT.out.trans (in_whl HBN.out (by rw [HY.out]; exact HWV.out.symm.trans hw))
          rw [ht] at f0 f1 f2
          dsimp only at f0 f1 f2
          subst hw
          clear ht
          have k0 : ¬ (k : Int) < 0 := by omega
          go_wp2_with fail
          go_ret
          exact ⟨by simp, S19.out.bl⟩
      · have hcar : carT x = some c := by have h := HCAR.out; rw [if_pos rfl] at h; exact h
        cases ro with
        | none =>
          have hbn : byT p y = none := by rw [HY.out]; exact by_no2 hcar HRO.out.symm
          clear hcar
          dsimp only [Option.getD, Option.isSome]
          have HBN := hid hbn
          clear hbn
          go_upto_region 20 with (fail)
          refine wp_region_held_drew (S := fun (w' : World) => HS [] W w' [thC V [.int .i64 tt.d, .int .i64 tt.s, .bool tt.c, .slice AR tt.n cR], thC X [.int .i64 x.kind, .int .i64 9, .int .i64 x.piece, .int .i64 x.src, .int .i64 x.dst, .int .i64 x.fp, .int .i64 x.tp, .int .i64 x.flags, .int .i64 x.label, .bool x.bare, .int .i64 x.code, .slice AO x.no cO, .slice AD x.nd cD], thY (.slice AO x.no cO) x.no x.go, thR bD AD x.nd x.gd, thB P 330 (pc p)]) (by kernel_rfl) ?_ (fun hHeld => ?_)
          · exact S18.out.drew
          refine tk 0 (v := .agg (FA 330 (pc p))) rfl (by kernel_rfl) (by kernel_rfl) (by kernel_rfl) (fun _ _ _ h => h) rfl (fun w hSw => ex_load rfl rfl ((hSw.fb 4 rfl).load 0 330 (pc p) (by omega) (fun j hj => by rw [Nat.zero_add]) Tryz.underlying33 rfl info_pl2)) hHeld ?_; (try simp only [Act.put, List.setIfInBounds_toArray, List.set_cons_zero, List.set_cons_succ])
          refine tk 2 (v := .agg (FA 330 (pc p))) rfl (by kernel_rfl) (by kernel_rfl) (by kernel_rfl) (fun _ _ _ h => h) rfl (fun w hSw => ex_load rfl rfl ((hSw.fb 4 rfl).load 0 330 (pc p) (by omega) (fun j hj => by rw [Nat.zero_add]) Tryz.underlying33 rfl info_pl2)) hHeld ?_; (try simp only [Act.put, List.setIfInBounds_toArray, List.set_cons_zero, List.set_cons_succ])
          refine tkq 3 hHeld ?_ (hy := by intro w hSw; (try dsimp only at hSw); obtain ⟨y0, y1, y2, y3, y4, y5, y6, y7, y8, y9, y10, y11, y12⟩ := (hSw.ce 1 rfl).c13; go_simp; (try with_reducible rfl))
          refine only 1 rfl (by kernel_rfl) rfl (fun K hK => ?_)
          go_simp
          refine (RMW.out _).mono ?_
          rintro e w14 ⟨BW, rfl, _, hia, hb⟩
          try go_wp2_with fail
          refine hK.out _ _ (hHeld.below hb) (fun h2 => ?_)
          clear hK hHeld hb
          try simp only [Act.put, List.setIfInBounds_toArray, List.set_cons_zero, List.set_cons_succ]
          refine only 4 rfl (by kernel_rfl) rfl (fun K hK => ?_)
          go_simp
          refine (FLO.out _).mono ?_
          rintro e w15 ⟨rfl, hb⟩
          try go_wp2_with fail
          have hia2 := hia.below hb
          refine hK.out _ _ (h2.below hb) (fun h3 => ?_)
          clear hK h2 hb
          try simp only [Act.put, List.setIfInBounds_toArray, List.set_cons_zero, List.set_cons_succ]
          refine only 5 rfl (by kernel_rfl) rfl (fun K hK => ?_)
          go_simp
          refine (RPK.out _ BW hia2).mono ?_
          rintro e w16 ⟨rfl, hb⟩
          try go_wp2_with fail
          refine hK.out _ _ (h3.below hb) (fun h4 => ?_)
          clear hK h3 hb
          try simp only [Act.put, List.setIfInBounds_toArray, List.set_cons_zero, List.set_cons_succ]
          refine tkq 6 h4 ?_
          have S19 : Hid (HS [] W _ [thC V [.int .i64 tt.d, .int .i64 tt.s, .bool tt.c, .slice AR tt.n cR], thC X [.int .i64 x.kind, .int .i64 9, .int .i64 x.piece, .int .i64 x.src, .int .i64 x.dst, .int .i64 x.fp, .int .i64 x.tp, .int .i64 x.flags, .int .i64 x.label, .bool x.bare, .int .i64 x.code, .slice AO x.no cO, .slice AD x.nd cD], thY (.slice AO x.no cO) x.no x.go, thR bD AD x.nd x.gd, thB P 330 (pc p)]) := hid (h4)
          clear h4 S18 hia hia2
          refine wpAnyH_done (by kernel_rfl) ?_ _
          obtain ⟨f0, f1, f2, f3⟩ := (S19.out.ce 0 rfl).c4
          rcases HWB.out with hw | ⟨k, hk64, hw⟩
          · have ht : tt = dropT 9 (fun _ => none) := TT.out.trans (in_no HBN.out (by rw [HY.out]; exact HWV.out.symm.trans hw))
            have HW := hid hw
            rw [ht] at f0 f1
            subst hw
            clear ht
            dsimp only [dropT] at f0 f1
            have HQ := hid HWV.out
            clear HWV
            go_wp2_with fail
            go_ret
            exact ⟨by simp, S19.out.bl⟩
          · have ht : tt = _ := TT.out.trans (in_whl HBN.out (by rw [HY.out]; exact HWV.out.symm.trans hw))
            rw [ht] at f0 f1 f2
            dsimp only at f0 f1 f2
            subst hw
            clear ht
            have k0 : ¬ (k : Int) < 0 := by omega
            go_wp2_with fail
            go_ret
            exact ⟨by simp, S19.out.bl⟩
        | some s =>
          obtain ⟨s0, s1⟩ := HRB.out s rfl
          obtain ⟨j, rfl⟩ : ∃ j : Nat, s = (j : Int) := ⟨s.toNat, by omega⟩
          have hj : j < 64 := by omega
          have TKS := hid (fun (w : World) => (show Calls Tryz.prog 20 #[.agg #[.int .i64 (p.s j).st, .int .i64 (p.s j).ad, .int .i64 (p.s j).po, .int .i64 (p.s j).we, .int .i64 (p.s j).si]] w fun e w' => e = .returned (.bool (takesB (p.s j).st)) ∧ Below w.heap.size w w' from takes_any (p.s j) w))
          dsimp only [Option.getD, Option.isSome]
          obtain ⟨q0, q1, q2, q3, q4⟩ := (pool_fb (S18.out.fb 4 rfl)).s5 j hj
          cases htk : takesB (p.s j).st
          · have hbn : byT p y = none := by rw [HY.out]; exact by_no3 hcar HRO.out.symm htk
            rw [htk] at TKS
            have HTK := hid htk
            clear htk hcar
            have HBM := hid hbn
            clear hbn
            go_wp2_with fail
            refine (TKS.out _).mono ?_
            rintro e w17 ⟨rfl, hb⟩
            have S19 : Hid (HS [] W w17 [thC V [.int .i64 tt.d, .int .i64 tt.s, .bool tt.c, .slice AR tt.n cR], thC X [.int .i64 x.kind, .int .i64 9, .int .i64 x.piece, .int .i64 x.src, .int .i64 x.dst, .int .i64 x.fp, .int .i64 x.tp, .int .i64 x.flags, .int .i64 x.label, .bool x.bare, .int .i64 x.code, .slice AO x.no cO, .slice AD x.nd cD], thY (.slice AO x.no cO) x.no x.go, thR bD AD x.nd x.gd, thB P 330 (pc p)]) := hid (S18.out.below hb)
            clear hb TKS q0 q1 q2 q3 q4 S18
            go_simp
            have hbn := HBM.out
            have HBN := hid hbn
            clear hbn
            go_upto_region 20 with (fail)
            refine wp_region_held_drew (S := fun (w' : World) => HS [] W w' [thC V [.int .i64 tt.d, .int .i64 tt.s, .bool tt.c, .slice AR tt.n cR], thC X [.int .i64 x.kind, .int .i64 9, .int .i64 x.piece, .int .i64 x.src, .int .i64 x.dst, .int .i64 x.fp, .int .i64 x.tp, .int .i64 x.flags, .int .i64 x.label, .bool x.bare, .int .i64 x.code, .slice AO x.no cO, .slice AD x.nd cD], thY (.slice AO x.no cO) x.no x.go, thR bD AD x.nd x.gd, thB P 330 (pc p)]) (by kernel_rfl) ?_ (fun hHeld => ?_)
            · exact S19.out.drew
            refine tk 0 (v := .agg (FA 330 (pc p))) rfl (by kernel_rfl) (by kernel_rfl) (by kernel_rfl) (fun _ _ _ h => h) rfl (fun w hSw => ex_load rfl rfl ((hSw.fb 4 rfl).load 0 330 (pc p) (by omega) (fun j hj => by rw [Nat.zero_add]) Tryz.underlying33 rfl info_pl2)) hHeld ?_; (try simp only [Act.put, List.setIfInBounds_toArray, List.set_cons_zero, List.set_cons_succ])
            refine tk 2 (v := .agg (FA 330 (pc p))) rfl (by kernel_rfl) (by kernel_rfl) (by kernel_rfl) (fun _ _ _ h => h) rfl (fun w hSw => ex_load rfl rfl ((hSw.fb 4 rfl).load 0 330 (pc p) (by omega) (fun j hj => by rw [Nat.zero_add]) Tryz.underlying33 rfl info_pl2)) hHeld ?_; (try simp only [Act.put, List.setIfInBounds_toArray, List.set_cons_zero, List.set_cons_succ])
            refine tkq 3 hHeld ?_ (hy := by intro w hSw; (try dsimp only at hSw); obtain ⟨y0, y1, y2, y3, y4, y5, y6, y7, y8, y9, y10, y11, y12⟩ := (hSw.ce 1 rfl).c13; go_simp; (try with_reducible rfl))
            refine only 1 rfl (by kernel_rfl) rfl (fun K hK => ?_)
            go_simp
            refine (RMW.out _).mono ?_
            rintro e w14 ⟨BW, rfl, _, hia, hb⟩
            try go_wp2_with fail
            refine hK.out _ _ (hHeld.below hb) (fun h2 => ?_)
            clear hK hHeld hb
            try simp only [Act.put, List.setIfInBounds_toArray, List.set_cons_zero, List.set_cons_succ]
            refine only 4 rfl (by kernel_rfl) rfl (fun K hK => ?_)
            go_simp
            refine (FLO.out _).mono ?_
            rintro e w15 ⟨rfl, hb⟩
            try go_wp2_with fail
            have hia2 := hia.below hb
            refine hK.out _ _ (h2.below hb) (fun h3 => ?_)
            clear hK h2 hb
            try simp only [Act.put, List.setIfInBounds_toArray, List.set_cons_zero, List.set_cons_succ]
            refine only 5 rfl (by kernel_rfl) rfl (fun K hK => ?_)
            go_simp
            refine (RPK.out _ BW hia2).mono ?_
            rintro e w16 ⟨rfl, hb⟩
            try go_wp2_with fail
            refine hK.out _ _ (h3.below hb) (fun h4 => ?_)
            clear hK h3 hb
            try simp only [Act.put, List.setIfInBounds_toArray, List.set_cons_zero, List.set_cons_succ]
            refine tkq 6 h4 ?_
            have S20 : Hid (HS [] W _ [thC V [.int .i64 tt.d, .int .i64 tt.s, .bool tt.c, .slice AR tt.n cR], thC X [.int .i64 x.kind, .int .i64 9, .int .i64 x.piece, .int .i64 x.src, .int .i64 x.dst, .int .i64 x.fp, .int .i64 x.tp, .int .i64 x.flags, .int .i64 x.label, .bool x.bare, .int .i64 x.code, .slice AO x.no cO, .slice AD x.nd cD], thY (.slice AO x.no cO) x.no x.go, thR bD AD x.nd x.gd, thB P 330 (pc p)]) := hid (h4)
            clear h4 S19 hia hia2
            refine wpAnyH_done (by kernel_rfl) ?_ _
            obtain ⟨f0, f1, f2, f3⟩ := (S20.out.ce 0 rfl).c4
            rcases HWB.out with hw | ⟨k, hk64, hw⟩
            · have ht : tt = dropT 9 (fun _ => none) := TT.out.trans (in_no HBN.out (by rw [HY.out]; exact HWV.out.symm.trans hw))
              have HW := hid hw
              rw [ht] at f0 f1
              subst hw
              clear ht
              dsimp only [dropT] at f0 f1
              have HQ := hid HWV.out
              clear HWV
              go_wp2_with fail
              go_ret
              exact ⟨by simp, S20.out.bl⟩
            · have ht : tt = _ := TT.out.trans (in_whl HBN.out (by rw [HY.out]; exact HWV.out.symm.trans hw))
              rw [ht] at f0 f1 f2
              dsimp only at f0 f1 f2
              subst hw
              clear ht
              have k0 : ¬ (k : Int) < 0 := by omega
              go_wp2_with fail
              go_ret
              exact ⟨by simp, S20.out.bl⟩
          · have hbs : byT p y = some (j : Int) := by rw [HY.out]; exact by_some hcar HRO.out.symm htk
            have ht : tt = _ := TT.out.trans (in_some hbs)
            rw [htk] at TKS
            have HTK := hid htk
            have HT := hid ht
            clear htk hcar hbs ht
            go_wp2_with fail
            refine (TKS.out _).mono ?_
            rintro e w17 ⟨rfl, hb⟩
            have S19 : Hid (HS [] W w17 [thC V [.int .i64 tt.d, .int .i64 tt.s, .bool tt.c, .slice AR tt.n cR], thC X [.int .i64 x.kind, .int .i64 9, .int .i64 x.piece, .int .i64 x.src, .int .i64 x.dst, .int .i64 x.fp, .int .i64 x.tp, .int .i64 x.flags, .int .i64 x.label, .bool x.bare, .int .i64 x.code, .slice AO x.no cO, .slice AD x.nd cD], thY (.slice AO x.no cO) x.no x.go, thR bD AD x.nd x.gd, thB P 330 (pc p)]) := hid (S18.out.below hb)
            clear hb TKS q0 q1 q2 q3 q4 S18
            obtain ⟨f0, f1, f2, f3⟩ := (S19.out.ce 0 rfl).c4
            rw [HT.out] at f0 f1 f2
            dsimp only at f0 f1 f2
            go_simp
            go_wp2_with fail
            go_ret
            exact ⟨by simp, S19.out.bl⟩

set_option maxRecDepth 100000 in
theorem lifted (os : Os) (started : os.Started) (H : Type) (enc : TypeId × Value → H) :
    ReturnsInHanded {} Tryz.checked os 3 .any (Rows.topWaysSpec.pre6 enc Tryz.prog Tryz.f3 [] false) (Rows.topWaysSpec.post enc Tryz.prog Tryz.f3 false true false false) :=
  law_step (s := Rows.topWaysSpec) started (by kernel_rfl) Tryz.func3
    (ChangeSpec.witness6 (s := Rows.topWaysSpec) (enc := enc) (C := Tryz.checked) false ⟨#[], #[.slice none 0 0, .int .i64 0, .int .i64 0], []⟩ 8 (by kernel_rfl) (by kernel_rfl) (by kernel_rfl) (by kernel_rfl))
    rfl (by rw [Tryz.params3]; decide +kernel) rfl Tryz.underlying4
    (fun ds h => by
      rw [Tryz.params3] at h
      match ds, h with
      | [_, _, _], _ => rfl)
    (fun W base args ds ps hval hA hsz => by
      rw [Tryz.params3] at hA hval hsz
      obtain ⟨v0, vs0, d0, ds0, p0, q0, hargs, rfl, rfl, h0, r0⟩ := trodAll_cons hA
      obtain ⟨v1, vs1, d1, ds1, p1, q1, rfl, rfl, rfl, h1, r1⟩ := trodAll_cons r0
      obtain ⟨v2, vs2, d2, ds2, p2, q2, rfl, rfl, rfl, h2, r2⟩ := trodAll_cons r1
      obtain ⟨rfl, rfl, rfl⟩ := trodAll_nil r2
      obtain rfl : args = #[v0, v1, v2] := by cases args; simp_all
      obtain ⟨A0, n0, c0, g0, rfl, hn0, hc0, hs0, hw0, hl0, hd0⟩ := open_row Tryz.underlying22 Tryz.underlying3 (by kernel_rfl) (hval 0 22 v0 rfl rfl) h0
      have re0 : c0 * 8 ≤ 140737488351232 := by
        rcases hd0 with ⟨_, h0⟩ | ⟨xs, ys, h1, h2⟩
        · omega
        · have := sized_slice hsz (j := 0) (t := 22) (e := 3) rfl (by rw [h1]; rfl) Tryz.underlying22
          rw [h2, show Tryz.prog.bytesOf 3 = 8 from by kernel_rfl] at this
          simpa [reachBytes] using this
      obtain ⟨a1, rfl, rfl, rfl, w1⟩ := open_int Tryz.underlying3 (hval 1 3 v1 rfl rfl) h1
      obtain ⟨a2, rfl, rfl, rfl, w2⟩ := open_int Tryz.underlying3 (hval 2 3 v2 rfl rfl) h2
      exact walk W A0 n0 c0 g0 hn0 hc0 hs0 (fun j => bounds_i64 (hw0 j)) hl0 re0 a1 (bounds_i64 w1) a2 (bounds_i64 w2))

theorem proved : Rows.TopWaysSaid :=
  OpenClaim.holds_of_wide 3 Tryz.f3 rfl rfl rfl rfl rfl rfl rfl ⟨rfl, rfl, rfl, rfl, rfl⟩ rfl rfl rfl rfl rfl (by kernel_rfl) Tryz.func3 (by kernel_rfl)
    (of_decide_eq_true (by kernel_rfl)) (by unfold Func.isWrapper; first | (rw [if_pos (by decide +kernel)]; kernel_rfl) | (rw [if_neg (by decide +kernel)]; exact ⟨rfl, rfl⟩))
    (fun os started H enc _ => lifted os started H enc)
end Go.Proofs.YtomlpkojnipkhaaGreat.topWays
