/- roundhouselaw9.PlaneEcho answers true for every row, any two numbers, either way; no condition. -/
import Derived.Test.YteapnfdpkjbfhaaGreatGa
import Derived.Test.YteapnfdpkjbfhaaGreatPlKn9
import Derived.Test.YteapnfdpkjbfhaaGreatPlEcM
import Derived.Test.YteapnfdpkjbfhaaGreatPlRp
import Derived.Test.YteapnfdpkjbfhaaGreatWirRef1
import Derived.Test.YteapnfdpkjbfhaaGreatOptRst
import Derived.Deep.LoopGhost
import Derived.Deep.CutRange
import Derived.Deep.CutBlock
import Derived.IntWalk
import Derived.BigQuiet
import Derived.Deep.RegionHeld3
import Derived.Deep.Cut
namespace Go.Proofs.YteapnfdpkjbfhaaGreat.planeEcho
set_option linter.unusedVariables false
set_option linter.unusedSimpArgs false
open Go.RowKit Go.ChangeShapes Go.WideShapes Go.ChangeAt
attribute [local irreducible] FA FL mkBO
theorem u32_or (a b : Int) : U32 (bits BinOp.or IntKind.u32 a b) := by
 unfold U32
 show 0 ≤ (_ : Int) % 4294967296 ∧ (_ : Int) % 4294967296 < 4294967296
 omega
set_option maxRecDepth 100000 in
set_option maxHeartbeats 8000000 in
theorem walk (W : World) (A1 : Option Addr) (n1 c1 : Nat) (g1 : Nat → Int) (hn1 : n1 ≤ c1) (hc1 : c1 ≤ maxLen) (hr1 : Is W A1 n1 g1) (hg1 : IsI g1) (hl1 : ∀ ad, A1 = some ad → 0 < n1 → ad.block < W.heap.size) (re1 : c1 * 8 ≤ 140737488351232) (a0 : Int) (r_a0 : -9223372036854775808 ≤ a0 ∧ a0 ≤ 9223372036854775807) (b0 : Int) (r_b0 : -9223372036854775808 ≤ b0 ∧ b0 ≤ 9223372036854775807) (d0 : Bool) :
 Calls Tryz.prog 3 #[.slice A1 n1 c1, .int .i64 a0, .int .i64 b0, .bool d0] W fun e w' => e = .returned (.bool true) ∧ Below W.heap.size W w' := by
 obtain ⟨p, hp⟩ : ∃ p, p = mkP g1 (min n1 60) := ⟨_, rfl⟩
 have HPI := hid (show Pinv p 60 from by rw [hp]; exact (mkP_inv g1 _).mono (by omega))
 have HPC := hid (show p.a = 10 ∧ p.p = 80 from by rw [hp]; exact mkP_ap g1 _)
 have HPT := hid (show Pt p from by rw [hp]; exact mkP_pt g1 _ (by omega))
 have HPW := hid (show Pw p from by rw [hp]; exact mk_pw g1 _)
 have MK := hid (fun (w : World) (hb : Below W.heap.size W w) => (show Calls Tryz.prog 10 #[.slice A1 n1 c1, .int .i64 60] w fun x w' => x = .returned (.agg (FA 330 (pc p))) ∧ Below w.heap.size w w' from by rw [hp]; exact mk_top W A1 n1 c1 g1 hr1 hl1 hn1 hc1 60 (by decide) w hb))
 clear hp hr1 hl1 hg1 re1 hn1 hc1
 have S0 : Hid (HS [] W W []) := hid HS.start
 go_enter Tryz.func3, Tryz.ntmps3
 go_wp2_with fail
 refine (known_9 _).mono ?_
 rintro e w1 ⟨rfl, hb⟩
 have S1 : Hid (HS [] W w1 []) := hid (S0.out.below hb)
 clear hb S0
 go_simp
 go_wp2_with fail
 refine (MK.out _ S1.out.bl).mono ?_
 rintro e w2 ⟨rfl, hb⟩
 have S2 : Hid (HS [] W w2 []) := hid (S1.out.below hb)
 clear hb S1 MK
 go_simp
 go_upto_region 4 with (first | ((with_reducible refine wl_id ?_); refine wl_ow rfl (ow_alloc rfl (zpl2 _) (by omega) S2.out ?_); intro P w_ hZ _; have SA := hid hZ; clear hZ) | ((with_reducible refine wl_id ?_); refine wl_ow rfl (ow_store (A := []) 0 330 (pc p) (pc p) rfl rfl rfl SA.out (by omega) (fun j hj => patch_all _ _ _ j hj) info_pl2 (pc_one _) ?_); intro w_ hZ; have SX := hid hZ; clear hZ))
 have S3 : Hid (HS [] W _ [thB P 330 (pc p)]) := hid (SX.out)
 clear SX SA S2
 go_wp2_with ((with_reducible refine wl_id ?_); refine wl_ow rfl (ow_load 0 rfl 0 330 (pc p) rfl rfl S3.out (by omega) (fun j hj => by rw [Nat.zero_add]) Tryz.underlying33 rfl info_pl2 ?_))
 refine (up_9 S3.out p HPW.out).mono ?_
 rintro e w3 ⟨pb, sb, wb, rfl, hne, hz⟩
 have S4 : Hid (HS [] W w3 [thS sb wb p, thB pb 130 (plf sb (fun _ => none)), thB P 330 (pc p)]) := hid (hz)
 clear hz S3
 have HNE := hid hne
 clear hne
 go_simp
 go_upto_region 7 with (fail)
 go_wp2_with ((with_reducible refine wl_id ?_); refine wl_ow rfl (ow_load 2 rfl 0 330 (pc p) rfl rfl S4.out (by omega) (fun j hj => by rw [Nat.zero_add]) Tryz.underlying33 rfl info_pl2 ?_))
 refine (c_in S4.out p HPT.out a0 b0 r_a0 r_b0).mono ?_
 rintro e w4 ⟨x, AO, cO, AD, cD, bD, rfl, hcO, hI, hz⟩
 have S5 : Hid (HS [] W w4 [thY (.slice AO x.no cO) x.no x.go, thR bD AD x.nd x.gd, thS sb wb p, thB pb 130 (plf sb (fun _ => none)), thB P 330 (pc p)]) := hid (hz)
 clear hz hcO S4
 have HI := hid hI
 clear hI
 go_simp
 go_upto_region 8 with (first | ((with_reducible refine wl_id ?_); refine wl_ow rfl (ow_allocC rfl (zPk _) (by simp) S5.out ?_); intro X w_ hZ _; have SY := hid hZ; clear hZ) | ((with_reducible refine wl_id ?_); refine wl_ow rfl (ow_storeC (A := []) [.int .i64 x.kind, .int .i64 x.life, .int .i64 x.piece, .int .i64 x.src, .int .i64 x.dst, .int .i64 x.fp, .int .i64 x.tp, .int .i64 x.flags, .int .i64 x.label, .bool x.bare, .int .i64 x.code, .slice AO x.no cO, .slice AD x.nd cD] rfl rfl (rfl) SY.out rfl iPk rfl ?_); intro w_ hZ; have SX := hid hZ; clear hZ))
 have S6 : Hid (HS [] W _ [thC X [.int .i64 x.kind, .int .i64 x.life, .int .i64 x.piece, .int .i64 x.src, .int .i64 x.dst, .int .i64 x.fp, .int .i64 x.tp, .int .i64 x.flags, .int .i64 x.label, .bool x.bare, .int .i64 x.code, .slice AO x.no cO, .slice AD x.nd cD], thY (.slice AO x.no cO) x.no x.go, thR bD AD x.nd x.gd, thS sb wb p, thB pb 130 (plf sb (fun _ => none)), thB P 330 (pc p)]) := hid (SX.out)
 clear SX SY S5
 try simp only [Act.put, List.setIfInBounds_toArray, List.set_cons_zero, List.set_cons_succ]
 go_cut [11] from 34 to 38 (fun v wx => v = .pointer (some ⟨X, 0, none⟩) ∧ HS [] W wx [thC X [.int .i64 1, .int .i64 9, .int .i64 x.piece, .int .i64 x.src, .int .i64 x.dst, .int .i64 x.fp, .int .i64 x.tp, .int .i64 2, .int .i64 0, .bool false, .int .i64 x.code, .slice AO x.no cO, .slice AD x.nd cD], thY (.slice AO x.no cO) x.no x.go, thR bD AD x.nd x.gd, thS sb wb p, thB pb 130 (plf sb (fun _ => none)), thB P 330 (pc p)])
 case first =>
  have yl := (S6.out.ce 0 rfl).1
  have yf0 := (S6.out.ce 0 rfl).2.2 0
  have yy0 := (S6.out.ce 0 rfl).2.1 0 _ rfl
  have yf1 := (S6.out.ce 0 rfl).2.2 1
  have yy1 := (S6.out.ce 0 rfl).2.1 1 _ rfl
  have yf7 := (S6.out.ce 0 rfl).2.2 7
  have yy7 := (S6.out.ce 0 rfl).2.1 7 _ rfl
  have yf8 := (S6.out.ce 0 rfl).2.2 8
  have yy8 := (S6.out.ce 0 rfl).2.1 8 _ rfl
  have yf9 := (S6.out.ce 0 rfl).2.2 9
  have yy9 := (S6.out.ce 0 rfl).2.1 9 _ rfl
  go_wp2_with fail
  go_meet
  exact ⟨rfl, (HS.setC (A := []) (HS.setC (A := []) (HS.setC (A := []) (HS.setC (A := []) (HS.setC (A := []) S6.out 0 (.int .i64 1) (by simp)) 1 (.int .i64 9) (by simp)) 7 (.int .i64 2) (by simp)) 8 (.int .i64 0) (by simp)) 9 (.bool false) (by simp))⟩
 case rest =>
  obtain ⟨rfl, hz⟩ := hcut
  have S7 : Hid (HS [] W _ [thC X [.int .i64 1, .int .i64 9, .int .i64 x.piece, .int .i64 x.src, .int .i64 x.dst, .int .i64 x.fp, .int .i64 x.tp, .int .i64 2, .int .i64 0, .bool false, .int .i64 x.code, .slice AO x.no cO, .slice AD x.nd cD], thY (.slice AO x.no cO) x.no x.go, thR bD AD x.nd x.gd, thS sb wb p, thB pb 130 (plf sb (fun _ => none)), thB P 330 (pc p)]) := hid (hz)
  clear hz S6
  go_upto_if 39 with (fail)
  go_cut [12] from 39 to 42 (fun v wx => ∃ e0 : Int, v = .int .u32 e0 ∧ U32 e0 ∧ HS [] W wx [thC X [.int .i64 1, .int .i64 9, .int .i64 x.piece, .int .i64 x.src, .int .i64 x.dst, .int .i64 x.fp, .int .i64 x.tp, .int .i64 2, .int .i64 0, .bool false, .int .i64 x.code, .slice AO x.no cO, .slice AD x.nd cD], thY (.slice AO x.no cO) x.no x.go, thR bD AD x.nd x.gd, thS sb wb p, thB pb 130 (plf sb (fun _ => none)), thB P 330 (pc p)])
  case first =>
   cases d0
   ·go_wp2_with fail
    go_meet
    exact ⟨0, rfl, u32_0, S7.out⟩
   ·go_wp2_with fail
    go_meet
    exact ⟨_, rfl, u32_or _ _, S7.out⟩
  case rest =>
   obtain ⟨e0, rfl, hu, hz⟩ := hcut
   have S8 : Hid (HS [] W _ [thC X [.int .i64 1, .int .i64 9, .int .i64 x.piece, .int .i64 x.src, .int .i64 x.dst, .int .i64 x.fp, .int .i64 x.tp, .int .i64 2, .int .i64 0, .bool false, .int .i64 x.code, .slice AO x.no cO, .slice AD x.nd cD], thY (.slice AO x.no cO) x.no x.go, thR bD AD x.nd x.gd, thS sb wb p, thB pb 130 (plf sb (fun _ => none)), thB P 330 (pc p)]) := hid (hz)
   clear hz S7
   obtain ⟨hE, hgB, hg0, hL, hT⟩ := echo_all (e := e0) HPT.out HI.out hu
   obtain ⟨G1, hG1⟩ : ∃ G, G = builtF (xE x e0) := ⟨_, rfl⟩
   obtain ⟨n, hn⟩ : ∃ n, n = lenP (xE x e0) := ⟨_, rfl⟩
   rw [← hG1] at hgB hg0 hT
   rw [← hn] at hL hT
   have RMO := hid (fun (w : World) (L : List Th) (h : HS [] W w L) => (show Calls Tryz.prog 13 #[.int .u32 7, .int .u32 e0] w fun x w' => ∃ A c, x = .returned (.slice A 12 c) ∧ HS [] W w' (thY (.slice A 12 c) 12 (mkBO 7 e0) :: L) ∧ 12 ≤ c from c_rmake h 7 e0 u32_7 hu))
   have BLD := hid (fun (w : World) (L : List Th) (h : HS [] W w L) (A : Option Addr) (c' : Nat) (HO : By w A 12 (mkBO 7 e0)) (HD : By w AD x.nd x.gd) => (show Calls Tryz.prog 14 #[.agg #[.int .i64 1, .int .i64 9, .int .i64 x.piece, .int .i64 x.src, .int .i64 x.dst, .int .i64 x.fp, .int .i64 x.tp, .int .i64 2, .int .i64 0, .bool false, .int .i64 x.code, .slice A 12 c', .slice AD x.nd cD]] w fun e w' => ∃ A c, e = .returned (.tuple #[.slice A n c, .int .i64 0]) ∧ HS [] W w' (thY (.slice A n c) n G1 :: L) ∧ n ≤ c from c_rbuild h (xE x e0) (.inl rfl) n G1 hn hG1 hE (xE_M HI.out hu).go HI.out.md.gd (by show 12 ≤ 1000000; decide) (Nat.le_trans HI.out.md.nd (by decide)) A c' AD cD HO HD))
   have HT := hid hT
   have BG := hid hgB
   have KG := hid hg0
   have HL := hid hL
   have HN0 := hid (show Nt32 (fun _ => none) from fun j v h => by cases h)
   clear hT hgB hg0 hL hE hG1 hn hu
   go_upto_region 12 with (fail)
   go_wp2_with fail
   skip
   refine (RMO.out _ _ S8.out).mono ?_
   rintro e w5 ⟨A1, c1, rfl, hz, hcc⟩
   have S9 : Hid (HS [] W w5 [thY (.slice A1 12 c1) 12 (mkBO 7 e0), thC X [.int .i64 1, .int .i64 9, .int .i64 x.piece, .int .i64 x.src, .int .i64 x.dst, .int .i64 x.fp, .int .i64 x.tp, .int .i64 2, .int .i64 0, .bool false, .int .i64 x.code, .slice AO x.no cO, .slice AD x.nd cD], thY (.slice AO x.no cO) x.no x.go, thR bD AD x.nd x.gd, thS sb wb p, thB pb 130 (plf sb (fun _ => none)), thB P 330 (pc p)]) := hid (hz)
   clear hz hcc S8
   go_simp
   have yl := (S9.out.ce 1 rfl).1
   have yf11 := (S9.out.ce 1 rfl).2.2 11
   have yy11 := (S9.out.ce 1 rfl).2.1 11 _ rfl
   go_upto_region 13 with (fail)
   have SX := hid (show HS [] W (w5.setCell ⟨X, 11, none⟩ (.slice A1 12 c1)) [thY (.slice A1 12 c1) 12 (mkBO 7 e0), thC X [.int .i64 1, .int .i64 9, .int .i64 x.piece, .int .i64 x.src, .int .i64 x.dst, .int .i64 x.fp, .int .i64 x.tp, .int .i64 2, .int .i64 0, .bool false, .int .i64 x.code, .slice A1 12 c1, .slice AD x.nd cD], thY (.slice AO x.no cO) x.no x.go, thR bD AD x.nd x.gd, thS sb wb p, thB pb 130 (plf sb (fun _ => none)), thB P 330 (pc p)] from HS.setC (A := [thY (.slice A1 12 c1) 12 (mkBO 7 e0)]) S9.out 11 (.slice A1 12 c1) (by simp))
   clear yl yf11 yy11 S9
   generalize w5.setCell ⟨X, 11, none⟩ (.slice A1 12 c1) = w6 at *
   have S10 : Hid (HS [] W w6 [thY (.slice A1 12 c1) 12 (mkBO 7 e0), thC X [.int .i64 1, .int .i64 9, .int .i64 x.piece, .int .i64 x.src, .int .i64 x.dst, .int .i64 x.fp, .int .i64 x.tp, .int .i64 2, .int .i64 0, .bool false, .int .i64 x.code, .slice A1 12 c1, .slice AD x.nd cD], thY (.slice AO x.no cO) x.no x.go, thR bD AD x.nd x.gd, thS sb wb p, thB pb 130 (plf sb (fun _ => none)), thB P 330 (pc p)]) := hid (SX.out)
   clear SX
   obtain ⟨y0, y1, y2, y3, y4, y5, y6, y7, y8, y9, y10, y11, y12⟩ := (S10.out.ce 1 rfl).c13
   go_wp2_with fail
   refine (BLD.out _ _ S10.out _ _ (S10.out.by_ 0 rfl) (S10.out.byR 3 rfl)).mono ?_
   rintro e w7 ⟨AQ, cQ, rfl, hz, hcc⟩
   have S11 : Hid (HS [] W w7 [thY (.slice AQ n cQ) n G1, thY (.slice A1 12 c1) 12 (mkBO 7 e0), thC X [.int .i64 1, .int .i64 9, .int .i64 x.piece, .int .i64 x.src, .int .i64 x.dst, .int .i64 x.fp, .int .i64 x.tp, .int .i64 2, .int .i64 0, .bool false, .int .i64 x.code, .slice A1 12 c1, .slice AD x.nd cD], thY (.slice AO x.no cO) x.no x.go, thR bD AD x.nd x.gd, thS sb wb p, thB pb 130 (plf sb (fun _ => none)), thB P 330 (pc p)]) := hid (hz)
   clear hz S10 y0 y1 y2 y3 y4 y5 y6 y7 y8 y9 y10 y11 y12 BLD RMO
   have HCQ := hid hcc
   clear hcc
   go_simp
   rcases HT.out with h9 | ⟨k, cc, F, y, hk, ht, hFB, hFq, hFw, pe, hyn, hyg⟩
   ·have H9 := hid h9
    clear h9 HT
    go_wp2_with fail
    refine (c_take (A := [thY (.slice AQ n cQ) n G1, thY (.slice A1 12 c1) 12 (mkBO 7 e0), thC X [.int .i64 1, .int .i64 9, .int .i64 x.piece, .int .i64 x.src, .int .i64 x.dst, .int .i64 x.fp, .int .i64 x.tp, .int .i64 2, .int .i64 0, .bool false, .int .i64 x.code, .slice A1 12 c1, .slice AD x.nd cD], thY (.slice AO x.no cO) x.no x.go, thR bD AD x.nd x.gd, thS sb wb p]) (B := [thB P 330 (pc p)]) S11.out (S11.out.st 5 rfl) HNE.out HPT.out HN0.out G1 n cQ AQ BG.out (Nat.le_trans HL.out (by decide)) (fun _ => by rw [KG.out]; decide) (S11.out.by_ 0 rfl) HCQ.out _ H9.out).mono ?_
    rintro e w8 ⟨AR, cR, rfl, hz, hcc⟩
    dsimp only [dropT] at hz hcc ⊢
    have S12 : Hid (HS [] W w8 [thY (.slice AR (0) cR) (0) (fun _ => 0), thY (.slice AQ n cQ) n G1, thY (.slice A1 12 c1) 12 (mkBO 7 e0), thC X [.int .i64 1, .int .i64 9, .int .i64 x.piece, .int .i64 x.src, .int .i64 x.dst, .int .i64 x.fp, .int .i64 x.tp, .int .i64 2, .int .i64 0, .bool false, .int .i64 x.code, .slice A1 12 c1, .slice AD x.nd cD], thY (.slice AO x.no cO) x.no x.go, thR bD AD x.nd x.gd, thS sb wb p, thB pb 130 (plf sb (fun _ => none)), thB P 330 (pc p)]) := hid (hz)
    have HCR := hid hcc
    clear hz hcc S11
    go_simp
    go_upto_region 15 with (first | ((with_reducible refine wl_id ?_); refine wl_ow rfl (ow_allocC rfl (zOc _) (by simp) S12.out ?_); intro V w_ hZ _; have SY := hid hZ; clear hZ) | ((with_reducible refine wl_id ?_); refine wl_ow rfl (ow_storeC (A := []) [.int .i64 9, .int .i64 (-1), .bool false, .slice AR 0 cR] rfl rfl (rfl) SY.out rfl iOc rfl ?_); intro w_ hZ; have SX := hid hZ; clear hZ))
    have S13 : Hid (HS [] W _ [thC V [.int .i64 9, .int .i64 (-1), .bool false, .slice AR 0 cR], thY (.slice AR (0) cR) (0) (fun _ => 0), thY (.slice AQ n cQ) n G1, thY (.slice A1 12 c1) 12 (mkBO 7 e0), thC X [.int .i64 1, .int .i64 9, .int .i64 x.piece, .int .i64 x.src, .int .i64 x.dst, .int .i64 x.fp, .int .i64 x.tp, .int .i64 2, .int .i64 0, .bool false, .int .i64 x.code, .slice A1 12 c1, .slice AD x.nd cD], thY (.slice AO x.no cO) x.no x.go, thR bD AD x.nd x.gd, thS sb wb p, thB pb 130 (plf sb (fun _ => none)), thB P 330 (pc p)]) := hid (SX.out)
    clear SX SY S12
    obtain ⟨f0, f1, f2, f3⟩ := (S13.out.ce 0 rfl).c4
    go_wp2_with fail
    go_ret
    exact ⟨rfl, S13.out.bl⟩
   ·have H9 := hid ht
    have hn6 : n ≤ 1000000 := Nat.le_trans HL.out (by decide)
    have RPS := hid (fun (w : World) (L : List Th) (h : HS [] W w L) (A : Option Addr) (c' : Nat) (hc : n ≤ c') (hA : By w A n F) => (show Calls Tryz.prog 16 #[.slice A n c'] w fun e w' => ∃ AO cO AD cD, e = .returned (.tuple #[.agg #[.int .i64 y.kind, .int .i64 y.life, .int .i64 y.piece, .int .i64 y.src, .int .i64 y.dst, .int .i64 y.fp, .int .i64 y.tp, .int .i64 y.flags, .int .i64 y.label, .bool y.bare, .int .i64 y.code, .slice AO y.no cO, .slice AD y.nd cD], .int .i64 0]) ∧ HS [] W w' (thOD 0 (.slice AO y.no cO) (.slice AD y.nd cD) y.no y.nd y.go y.gd :: L) ∧ y.no ≤ cO ∧ y.nd ≤ cD from c_rparse h y F n hFB hn6 hFq pe A c' hc hA))
    have RST := hid (fun (w : World) (A : Option Addr) (c' : Nat) (hc : y.no ≤ c') (hA : By w A y.no y.go) => (show Calls Tryz.prog 17 #[.slice A y.no c'] w fun e w' => e = .returned (.tuple #[.int .i64 4, .int .u32 7, .int .u32 0, .bool true]) ∧ Below w.heap.size w w' from by have h := rstamp_any A y.no c' y.go w hA (by rw [hyg]; exact mkB_B u32_7 u32_0) (by omega) hc; rw [hyn, hyg, stamp_mk0 u32_7 u32_0] at h; rw [hyn]; exact h))
    have RWH := hid (fun (w : World) (A : Option Addr) (c' : Nat) (hc : n ≤ c') (hA : By w A n F) => (show Calls Tryz.prog 18 #[.slice A n c'] w fun e w' => e = .returned (.bool true) ∧ Below w.heap.size w w' from by have h := rwhole_any A n c' F w hA hFB hc hn6; rw [hFw] at h; exact h))
    clear ht hFB hFq hFw pe hyn hyg hk hn6 HT
    go_wp2_with fail
    refine (c_take (A := [thY (.slice AQ n cQ) n G1, thY (.slice A1 12 c1) 12 (mkBO 7 e0), thC X [.int .i64 1, .int .i64 9, .int .i64 x.piece, .int .i64 x.src, .int .i64 x.dst, .int .i64 x.fp, .int .i64 x.tp, .int .i64 2, .int .i64 0, .bool false, .int .i64 x.code, .slice A1 12 c1, .slice AD x.nd cD], thY (.slice AO x.no cO) x.no x.go, thR bD AD x.nd x.gd, thS sb wb p]) (B := [thB P 330 (pc p)]) S11.out (S11.out.st 5 rfl) HNE.out HPT.out HN0.out G1 n cQ AQ BG.out (Nat.le_trans HL.out (by decide)) (fun _ => by rw [KG.out]; decide) (S11.out.by_ 0 rfl) HCQ.out _ H9.out).mono ?_
    rintro e w8 ⟨AR, cR, rfl, hz, hcc⟩
    dsimp only [dropT] at hz hcc ⊢
    have S12 : Hid (HS [] W w8 [thY (.slice AR (n) cR) (n) (F), thY (.slice AQ n cQ) n G1, thY (.slice A1 12 c1) 12 (mkBO 7 e0), thC X [.int .i64 1, .int .i64 9, .int .i64 x.piece, .int .i64 x.src, .int .i64 x.dst, .int .i64 x.fp, .int .i64 x.tp, .int .i64 2, .int .i64 0, .bool false, .int .i64 x.code, .slice A1 12 c1, .slice AD x.nd cD], thY (.slice AO x.no cO) x.no x.go, thR bD AD x.nd x.gd, thS sb wb p, thB pb 130 (plf sb (fun _ => none)), thB P 330 (pc p)]) := hid (hz)
    have HCR := hid hcc
    clear hz hcc S11
    go_simp
    go_upto_region 15 with (first | ((with_reducible refine wl_id ?_); refine wl_ow rfl (ow_allocC rfl (zOc _) (by simp) S12.out ?_); intro V w_ hZ _; have SY := hid hZ; clear hZ) | ((with_reducible refine wl_id ?_); refine wl_ow rfl (ow_storeC (A := []) [.int .i64 0, .int .i64 k, .bool cc, .slice AR n cR] rfl rfl (rfl) SY.out rfl iOc rfl ?_); intro w_ hZ; have SX := hid hZ; clear hZ))
    have S13 : Hid (HS [] W _ [thC V [.int .i64 0, .int .i64 k, .bool cc, .slice AR n cR], thY (.slice AR (n) cR) (n) (F), thY (.slice AQ n cQ) n G1, thY (.slice A1 12 c1) 12 (mkBO 7 e0), thC X [.int .i64 1, .int .i64 9, .int .i64 x.piece, .int .i64 x.src, .int .i64 x.dst, .int .i64 x.fp, .int .i64 x.tp, .int .i64 2, .int .i64 0, .bool false, .int .i64 x.code, .slice A1 12 c1, .slice AD x.nd cD], thY (.slice AO x.no cO) x.no x.go, thR bD AD x.nd x.gd, thS sb wb p, thB pb 130 (plf sb (fun _ => none)), thB P 330 (pc p)]) := hid (SX.out)
    clear SX SY S12
    obtain ⟨f0, f1, f2, f3⟩ := (S13.out.ce 0 rfl).c4
    go_upto_region 17 with (fail)
    go_wp2_with fail
    skip
    refine (RPS.out _ _ S13.out _ _ HCR.out (S13.out.by_ 1 rfl)).mono ?_
    rintro e w9 ⟨BO, dO, BD, dD, rfl, hz, hc1, hc2⟩
    have S14 : Hid (HS [] W w9 [thOD 0 (.slice BO y.no dO) (.slice BD y.nd dD) y.no y.nd y.go y.gd, thC V [.int .i64 0, .int .i64 k, .bool cc, .slice AR n cR], thY (.slice AR (n) cR) (n) (F), thY (.slice AQ n cQ) n G1, thY (.slice A1 12 c1) 12 (mkBO 7 e0), thC X [.int .i64 1, .int .i64 9, .int .i64 x.piece, .int .i64 x.src, .int .i64 x.dst, .int .i64 x.fp, .int .i64 x.tp, .int .i64 2, .int .i64 0, .bool false, .int .i64 x.code, .slice A1 12 c1, .slice AD x.nd cD], thY (.slice AO x.no cO) x.no x.go, thR bD AD x.nd x.gd, thS sb wb p, thB pb 130 (plf sb (fun _ => none)), thB P 330 (pc p)]) := hid (hz)
    have HC1 := hid hc1
    clear hz hc1 hc2 f0 f1 f2 f3 S13
    go_simp
    go_upto_region 18 with (first | ((with_reducible refine wl_id ?_); refine wl_ow rfl (ow_allocC rfl (zPk _) (by simp) S14.out ?_); intro Y w_ hZ _; have SY := hid hZ; clear hZ) | ((with_reducible refine wl_id ?_); refine wl_ow rfl (ow_storeC (A := []) [.int .i64 y.kind, .int .i64 y.life, .int .i64 y.piece, .int .i64 y.src, .int .i64 y.dst, .int .i64 y.fp, .int .i64 y.tp, .int .i64 y.flags, .int .i64 y.label, .bool y.bare, .int .i64 y.code, .slice BO y.no dO, .slice BD y.nd dD] rfl rfl (rfl) SY.out rfl iPk rfl ?_); intro w_ hZ; have SX := hid hZ; clear hZ))
    have S15 : Hid (HS [] W _ [thC Y [.int .i64 y.kind, .int .i64 y.life, .int .i64 y.piece, .int .i64 y.src, .int .i64 y.dst, .int .i64 y.fp, .int .i64 y.tp, .int .i64 y.flags, .int .i64 y.label, .bool y.bare, .int .i64 y.code, .slice BO y.no dO, .slice BD y.nd dD], thOD 0 (.slice BO y.no dO) (.slice BD y.nd dD) y.no y.nd y.go y.gd, thC V [.int .i64 0, .int .i64 k, .bool cc, .slice AR n cR], thY (.slice AR (n) cR) (n) (F), thY (.slice AQ n cQ) n G1, thY (.slice A1 12 c1) 12 (mkBO 7 e0), thC X [.int .i64 1, .int .i64 9, .int .i64 x.piece, .int .i64 x.src, .int .i64 x.dst, .int .i64 x.fp, .int .i64 x.tp, .int .i64 2, .int .i64 0, .bool false, .int .i64 x.code, .slice A1 12 c1, .slice AD x.nd cD], thY (.slice AO x.no cO) x.no x.go, thR bD AD x.nd x.gd, thS sb wb p, thB pb 130 (plf sb (fun _ => none)), thB P 330 (pc p)]) := hid (SX.out)
    clear SX SY S14
    have y11 := (S15.out.ce 0 rfl).2.1 11 _ rfl
    go_wp2_with fail
    refine (RST.out _ _ _ HC1.out (S15.out.byO 1 rfl).1).mono ?_
    rintro e w10 ⟨rfl, hb⟩
    have S16 : Hid (HS [] W w10 [thC Y [.int .i64 y.kind, .int .i64 y.life, .int .i64 y.piece, .int .i64 y.src, .int .i64 y.dst, .int .i64 y.fp, .int .i64 y.tp, .int .i64 y.flags, .int .i64 y.label, .bool y.bare, .int .i64 y.code, .slice BO y.no dO, .slice BD y.nd dD], thOD 0 (.slice BO y.no dO) (.slice BD y.nd dD) y.no y.nd y.go y.gd, thC V [.int .i64 0, .int .i64 k, .bool cc, .slice AR n cR], thY (.slice AR (n) cR) (n) (F), thY (.slice AQ n cQ) n G1, thY (.slice A1 12 c1) 12 (mkBO 7 e0), thC X [.int .i64 1, .int .i64 9, .int .i64 x.piece, .int .i64 x.src, .int .i64 x.dst, .int .i64 x.fp, .int .i64 x.tp, .int .i64 2, .int .i64 0, .bool false, .int .i64 x.code, .slice A1 12 c1, .slice AD x.nd cD], thY (.slice AO x.no cO) x.no x.go, thR bD AD x.nd x.gd, thS sb wb p, thB pb 130 (plf sb (fun _ => none)), thB P 330 (pc p)]) := hid (S15.out.below hb)
    clear hb y11 S15
    go_simp
    obtain ⟨f0, f1, f2, f3⟩ := (S16.out.ce 2 rfl).c4
    go_wp2_with fail
    skip
    refine (RWH.out _ _ _ HCR.out (S16.out.by_ 3 rfl)).mono ?_
    rintro e w11 ⟨rfl, hb⟩
    have S17 : Hid (HS [] W w11 [thC Y [.int .i64 y.kind, .int .i64 y.life, .int .i64 y.piece, .int .i64 y.src, .int .i64 y.dst, .int .i64 y.fp, .int .i64 y.tp, .int .i64 y.flags, .int .i64 y.label, .bool y.bare, .int .i64 y.code, .slice BO y.no dO, .slice BD y.nd dD], thOD 0 (.slice BO y.no dO) (.slice BD y.nd dD) y.no y.nd y.go y.gd, thC V [.int .i64 0, .int .i64 k, .bool cc, .slice AR n cR], thY (.slice AR (n) cR) (n) (F), thY (.slice AQ n cQ) n G1, thY (.slice A1 12 c1) 12 (mkBO 7 e0), thC X [.int .i64 1, .int .i64 9, .int .i64 x.piece, .int .i64 x.src, .int .i64 x.dst, .int .i64 x.fp, .int .i64 x.tp, .int .i64 2, .int .i64 0, .bool false, .int .i64 x.code, .slice A1 12 c1, .slice AD x.nd cD], thY (.slice AO x.no cO) x.no x.go, thR bD AD x.nd x.gd, thS sb wb p, thB pb 130 (plf sb (fun _ => none)), thB P 330 (pc p)]) := hid (S16.out.below hb)
    clear hb f0 f1 f2 f3 S16
    go_simp
    go_wp2_with fail
    go_ret
    exact ⟨rfl, S17.out.bl⟩
set_option maxRecDepth 100000 in
theorem lifted (os : Os) (started : os.Started) (H : Type) (enc : TypeId × Value → H) :
 ReturnsInHanded {} Tryz.checked os 3 .any (Rows.planeEchoSpec.pre6 enc Tryz.prog Tryz.f3 [] false) (Rows.planeEchoSpec.post enc Tryz.prog Tryz.f3 false true false false) :=
 law_step (s := Rows.planeEchoSpec) started (by kernel_rfl) Tryz.func3
  (ChangeSpec.witness6 (s := Rows.planeEchoSpec) (enc := enc) (C := Tryz.checked) false ⟨#[], #[.slice none 0 0, .int .i64 0, .int .i64 0, .bool false], []⟩ 8 (by kernel_rfl) (by kernel_rfl) (by kernel_rfl) (by kernel_rfl))
  rfl (by rw [Tryz.params3]; decide +kernel) rfl Tryz.underlying4
  (fun ds h => by
   rw [Tryz.params3] at h
   match ds, h with
   | [_, _, _, _], _ => rfl)
  (fun W base args ds ps hval hA hsz => by
   rw [Tryz.params3] at hA hval hsz
   obtain ⟨v0, vs0, d0, ds0, p0, q0, hargs, rfl, rfl, h0, r0⟩ := trodAll_cons hA
   obtain ⟨v1, vs1, d1, ds1, p1, q1, rfl, rfl, rfl, h1, r1⟩ := trodAll_cons r0
   obtain ⟨v2, vs2, d2, ds2, p2, q2, rfl, rfl, rfl, h2, r2⟩ := trodAll_cons r1
   obtain ⟨v3, vs3, d3, ds3, p3, q3, rfl, rfl, rfl, h3, r3⟩ := trodAll_cons r2
   obtain ⟨rfl, rfl, rfl⟩ := trodAll_nil r3
   obtain rfl : args = #[v0, v1, v2, v3] := by cases args; simp_all
   obtain ⟨A0, n0, c0, g0, rfl, hn0, hc0, hs0, hw0, hl0, hd0⟩ := open_row Tryz.underlying22 Tryz.underlying3 (by kernel_rfl) (hval 0 22 v0 rfl rfl) h0
   have re0 : c0 * 8 ≤ 140737488351232 := by
    rcases hd0 with ⟨_, h0⟩ | ⟨xs, ys, h1, h2⟩
    ·omega
    ·have := sized_slice hsz (j := 0) (t := 22) (e := 3) rfl (by rw [h1]; rfl) Tryz.underlying22
     rw [h2, show Tryz.prog.bytesOf 3 = 8 from by kernel_rfl] at this
     simpa [reachBytes] using this
   obtain ⟨a1, rfl, rfl, rfl, w1⟩ := open_int Tryz.underlying3 (hval 1 3 v1 rfl rfl) h1
   obtain ⟨a2, rfl, rfl, rfl, w2⟩ := open_int Tryz.underlying3 (hval 2 3 v2 rfl rfl) h2
   obtain ⟨a3, rfl, rfl, rfl⟩ := open_bool Tryz.underlying4 (hval 3 4 v3 rfl rfl) h3
   exact walk W A0 n0 c0 g0 hn0 hc0 hs0 (fun j => bounds_i64 (hw0 j)) hl0 re0 a1 (bounds_i64 w1) a2 (bounds_i64 w2) a3)
theorem proved : Rows.PlaneEchoSaid :=
 OpenClaim.holds_of_wide 3 Tryz.f3 rfl rfl rfl rfl rfl rfl rfl ⟨rfl, rfl, rfl, rfl, rfl⟩ rfl rfl rfl rfl rfl (by kernel_rfl) Tryz.func3 (by kernel_rfl)
  (of_decide_eq_true (by kernel_rfl)) (by unfold Func.isWrapper; first | (rw [if_pos (by decide +kernel)]; kernel_rfl) | (rw [if_neg (by decide +kernel)]; exact ⟨rfl, rfl⟩))
  (fun os started H enc _ => lifted os started H enc)
end Go.Proofs.YteapnfdpkjbfhaaGreat.planeEcho
