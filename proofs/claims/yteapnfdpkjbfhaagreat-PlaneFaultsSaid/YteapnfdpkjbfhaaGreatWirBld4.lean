/- The reference's Build, of a fault. -/
import Derived.Test.YteapnfdpkjbfhaaGreatGa
import Derived.Test.YteapnfdpkjbfhaaGreatWirLay
import Derived.BigQuiet
import Derived.Deep.RegionHeld3
import Derived.Deep.Cut
namespace Go.Proofs.YteapnfdpkjbfhaaGreat
set_option linter.unusedVariables false
set_option linter.unusedSimpArgs false
open Go.RowKit Go.ChangeShapes Go.WideShapes Go.ChangeAt
set_option maxHeartbeats 16000000 in
set_option maxRecDepth 10000 in
theorem rbuild3_any (p : Pk) (AO : Option Addr) (cO : Nat) (AD : Option Addr) (cD : Nat) (w : World) (HO : By w AO p.no p.go) (HD : By w AD p.nd p.gd) (hgo : IsB p.go) (hgd : IsB p.gd) (h1 : p.no ≤ 1000000) (h2 : p.nd ≤ 1000000) (KH : Hid (p.kind = 3)) :
 Calls Tryz.prog 14 #[.agg #[.int .i64 p.kind, .int .i64 p.life, .int .i64 p.piece, .int .i64 p.src, .int .i64 p.dst, .int .i64 p.fp, .int .i64 p.tp, .int .i64 p.flags, .int .i64 p.label, .bool p.bare, .int .i64 p.code, .slice AO p.no cO, .slice AD p.nd cD]] w (Outd w (buildE p) (lenP p) (builtF p)) := by
 have HOW := hid (fun (W : World) (hw : Below w.heap.size w W) => Sl.below HO hw (Nat.le_refl _))
 have HDW := hid (fun (W : World) (hw : Below w.heap.size w W) => Sl.below HD hw (Nat.le_refl _))
 have CE := hid (Ce.made (w := w) (l := [.int .i64 p.kind, .int .i64 p.life, .int .i64 p.piece, .int .i64 p.src, .int .i64 p.dst, .int .i64 p.fp, .int .i64 p.tp, .int .i64 p.flags, .int .i64 p.label, .bool p.bare, .int .i64 p.code, .slice AO p.no cO, .slice AD p.nd cD]) (T := 39) (g := w.heap.size) rfl)
 have B0 := hid ((Below.refl w.heap.size w).alloc (Nat.le_refl _) (.cells #[.int .i64 p.kind, .int .i64 p.life, .int .i64 p.piece, .int .i64 p.src, .int .i64 p.dst, .int .i64 p.fp, .int .i64 p.tp, .int .i64 p.flags, .int .i64 p.label, .bool p.bare, .int .i64 p.code, .slice AO p.no cO, .slice AD p.nd cD] 39))
 simp only [List.toArray] at CE
 clear HO HD
 have m1 : (p.kind == 1) = false := by rw [KH.out]; rfl
 have m2 : (p.kind == 2) = false := by rw [KH.out]; rfl
 have m3 : (p.kind == 3) = true := by rw [KH.out]; rfl
 have j1 : ¬ p.kind < 1 := by rw [KH.out]; decide
 have j3 : ¬ 3 < p.kind := by rw [KH.out]; decide
 have hk : isK p.kind = true := by rw [KH.out]; rfl
 replace hk := hid hk
 have R_life := hid (fun w => rout_any p.life 255 w)
 have R_piece := hid (fun w => rout_any p.piece 255 w)
 have R_code := hid (fun w => rout_any p.code 255 w)
 have R_src := hid (fun w => rout_any p.src 4294967295 w)
 have R_dst := hid (fun w => rout_any p.dst 4294967295 w)
 cases r_life : inR p.life 255
 ·rw [r_life] at R_life
  go_enter Tryz.func14, Tryz.ntmps14
  go_upto_region 1 with (fail)
  generalize (w.alloc (.cells #[.int .i64 p.kind, .int .i64 p.life, .int .i64 p.piece, .int .i64 p.src, .int .i64 p.dst, .int .i64 p.fp, .int .i64 p.tp, .int .i64 p.flags, .int .i64 p.label, .bool p.bare, .int .i64 p.code, .slice AO p.no cO, .slice AD p.nd cD] 39)) = w1 at *
  have y0 := CE.out.2.1 0 _ rfl
  have y1 := CE.out.2.1 1 _ rfl
  have y2 := CE.out.2.1 2 _ rfl
  have y3 := CE.out.2.1 3 _ rfl
  have y4 := CE.out.2.1 4 _ rfl
  have y5 := CE.out.2.1 5 _ rfl
  have y6 := CE.out.2.1 6 _ rfl
  have y7 := CE.out.2.1 7 _ rfl
  have y8 := CE.out.2.1 8 _ rfl
  have y9 := CE.out.2.1 9 _ rfl
  have y10 := CE.out.2.1 10 _ rfl
  have y11 := CE.out.2.1 11 _ rfl
  have y12 := CE.out.2.1 12 _ rfl
  go_upto_region 3 with (fail)
  go_quiet (fail)
  have BQ := hid (below_drewN B0.out nq)
  have CQ := hid (Ce.below CE.out (below_drewN (Below.refl _ _) nq))
  have lPq : w.heap.size < w1.heap.size := CE.out.1
  have lQ : w1.heap.size ≤ (w1.drewN nq).heap.size := by simp
  clear B0 CE
  clear y0 y1 y2 y3 y4 y5 y6 y7 y8 y9 y10 y11 y12
  generalize w1.drewN nq = wq at *
  have y0 := CQ.out.2.1 0 _ rfl
  have y1 := CQ.out.2.1 1 _ rfl
  have y2 := CQ.out.2.1 2 _ rfl
  have y3 := CQ.out.2.1 3 _ rfl
  have y4 := CQ.out.2.1 4 _ rfl
  have y5 := CQ.out.2.1 5 _ rfl
  have y6 := CQ.out.2.1 6 _ rfl
  have y7 := CQ.out.2.1 7 _ rfl
  have y8 := CQ.out.2.1 8 _ rfl
  have y9 := CQ.out.2.1 9 _ rfl
  have y10 := CQ.out.2.1 10 _ rfl
  have y11 := CQ.out.2.1 11 _ rfl
  have y12 := CQ.out.2.1 12 _ rfl
  go_wp2_with fail
  refine (R_life.out _).mono ?_
  rintro e w' ⟨rfl, rfl⟩
  go_wp2_with fail
  refine bodyPost_ret (v := .tuple #[.slice none 0 0, .int .i64 14]) (by simp [results, Tryz.results14, go_sem]) rfl ?_
  rw [show buildE p = 14 from buildE_rng hk.out (by unfold rangeB; rw [KH.out]; simp [r_life])]
  exact outd_no (by decide) BQ.out
 ·rw [r_life] at R_life
  cases r_piece : inR p.piece 255
  ·rw [r_piece] at R_piece
   go_enter Tryz.func14, Tryz.ntmps14
   go_upto_region 1 with (fail)
   generalize (w.alloc (.cells #[.int .i64 p.kind, .int .i64 p.life, .int .i64 p.piece, .int .i64 p.src, .int .i64 p.dst, .int .i64 p.fp, .int .i64 p.tp, .int .i64 p.flags, .int .i64 p.label, .bool p.bare, .int .i64 p.code, .slice AO p.no cO, .slice AD p.nd cD] 39)) = w1 at *
   have y0 := CE.out.2.1 0 _ rfl
   have y1 := CE.out.2.1 1 _ rfl
   have y2 := CE.out.2.1 2 _ rfl
   have y3 := CE.out.2.1 3 _ rfl
   have y4 := CE.out.2.1 4 _ rfl
   have y5 := CE.out.2.1 5 _ rfl
   have y6 := CE.out.2.1 6 _ rfl
   have y7 := CE.out.2.1 7 _ rfl
   have y8 := CE.out.2.1 8 _ rfl
   have y9 := CE.out.2.1 9 _ rfl
   have y10 := CE.out.2.1 10 _ rfl
   have y11 := CE.out.2.1 11 _ rfl
   have y12 := CE.out.2.1 12 _ rfl
   go_upto_region 3 with (fail)
   go_quiet (fail)
   have BQ := hid (below_drewN B0.out nq)
   have CQ := hid (Ce.below CE.out (below_drewN (Below.refl _ _) nq))
   have lPq : w.heap.size < w1.heap.size := CE.out.1
   have lQ : w1.heap.size ≤ (w1.drewN nq).heap.size := by simp
   clear B0 CE
   clear y0 y1 y2 y3 y4 y5 y6 y7 y8 y9 y10 y11 y12
   generalize w1.drewN nq = wq at *
   have y0 := CQ.out.2.1 0 _ rfl
   have y1 := CQ.out.2.1 1 _ rfl
   have y2 := CQ.out.2.1 2 _ rfl
   have y3 := CQ.out.2.1 3 _ rfl
   have y4 := CQ.out.2.1 4 _ rfl
   have y5 := CQ.out.2.1 5 _ rfl
   have y6 := CQ.out.2.1 6 _ rfl
   have y7 := CQ.out.2.1 7 _ rfl
   have y8 := CQ.out.2.1 8 _ rfl
   have y9 := CQ.out.2.1 9 _ rfl
   have y10 := CQ.out.2.1 10 _ rfl
   have y11 := CQ.out.2.1 11 _ rfl
   have y12 := CQ.out.2.1 12 _ rfl
   go_wp2_with fail
   refine (R_life.out _).mono ?_
   rintro e w' ⟨rfl, rfl⟩
   go_wp2_with fail
   refine (R_piece.out _).mono ?_
   rintro e w' ⟨rfl, rfl⟩
   go_wp2_with fail
   refine bodyPost_ret (v := .tuple #[.slice none 0 0, .int .i64 14]) (by simp [results, Tryz.results14, go_sem]) rfl ?_
   rw [show buildE p = 14 from buildE_rng hk.out (by unfold rangeB; rw [KH.out]; simp [r_life, r_piece])]
   exact outd_no (by decide) BQ.out
  ·rw [r_piece] at R_piece
   cases r_code : inR p.code 255
   ·rw [r_code] at R_code
    go_enter Tryz.func14, Tryz.ntmps14
    go_upto_region 1 with (fail)
    generalize (w.alloc (.cells #[.int .i64 p.kind, .int .i64 p.life, .int .i64 p.piece, .int .i64 p.src, .int .i64 p.dst, .int .i64 p.fp, .int .i64 p.tp, .int .i64 p.flags, .int .i64 p.label, .bool p.bare, .int .i64 p.code, .slice AO p.no cO, .slice AD p.nd cD] 39)) = w1 at *
    have y0 := CE.out.2.1 0 _ rfl
    have y1 := CE.out.2.1 1 _ rfl
    have y2 := CE.out.2.1 2 _ rfl
    have y3 := CE.out.2.1 3 _ rfl
    have y4 := CE.out.2.1 4 _ rfl
    have y5 := CE.out.2.1 5 _ rfl
    have y6 := CE.out.2.1 6 _ rfl
    have y7 := CE.out.2.1 7 _ rfl
    have y8 := CE.out.2.1 8 _ rfl
    have y9 := CE.out.2.1 9 _ rfl
    have y10 := CE.out.2.1 10 _ rfl
    have y11 := CE.out.2.1 11 _ rfl
    have y12 := CE.out.2.1 12 _ rfl
    go_upto_region 3 with (fail)
    go_quiet (fail)
    have BQ := hid (below_drewN B0.out nq)
    have CQ := hid (Ce.below CE.out (below_drewN (Below.refl _ _) nq))
    have lPq : w.heap.size < w1.heap.size := CE.out.1
    have lQ : w1.heap.size ≤ (w1.drewN nq).heap.size := by simp
    clear B0 CE
    clear y0 y1 y2 y3 y4 y5 y6 y7 y8 y9 y10 y11 y12
    generalize w1.drewN nq = wq at *
    have y0 := CQ.out.2.1 0 _ rfl
    have y1 := CQ.out.2.1 1 _ rfl
    have y2 := CQ.out.2.1 2 _ rfl
    have y3 := CQ.out.2.1 3 _ rfl
    have y4 := CQ.out.2.1 4 _ rfl
    have y5 := CQ.out.2.1 5 _ rfl
    have y6 := CQ.out.2.1 6 _ rfl
    have y7 := CQ.out.2.1 7 _ rfl
    have y8 := CQ.out.2.1 8 _ rfl
    have y9 := CQ.out.2.1 9 _ rfl
    have y10 := CQ.out.2.1 10 _ rfl
    have y11 := CQ.out.2.1 11 _ rfl
    have y12 := CQ.out.2.1 12 _ rfl
    go_wp2_with fail
    refine (R_life.out _).mono ?_
    rintro e w' ⟨rfl, rfl⟩
    go_wp2_with fail
    refine (R_piece.out _).mono ?_
    rintro e w' ⟨rfl, rfl⟩
    go_wp2_with fail
    refine (R_code.out _).mono ?_
    rintro e w' ⟨rfl, rfl⟩
    go_wp2_with fail
    refine bodyPost_ret (v := .tuple #[.slice none 0 0, .int .i64 14]) (by simp [results, Tryz.results14, go_sem]) rfl ?_
    rw [show buildE p = 14 from buildE_rng hk.out (by unfold rangeB; rw [KH.out]; simp [r_life, r_piece, r_code])]
    exact outd_no (by decide) BQ.out
   ·rw [r_code] at R_code
    cases r_src : inR p.src 4294967295
    ·rw [r_src] at R_src
     go_enter Tryz.func14, Tryz.ntmps14
     go_upto_region 1 with (fail)
     generalize (w.alloc (.cells #[.int .i64 p.kind, .int .i64 p.life, .int .i64 p.piece, .int .i64 p.src, .int .i64 p.dst, .int .i64 p.fp, .int .i64 p.tp, .int .i64 p.flags, .int .i64 p.label, .bool p.bare, .int .i64 p.code, .slice AO p.no cO, .slice AD p.nd cD] 39)) = w1 at *
     have y0 := CE.out.2.1 0 _ rfl
     have y1 := CE.out.2.1 1 _ rfl
     have y2 := CE.out.2.1 2 _ rfl
     have y3 := CE.out.2.1 3 _ rfl
     have y4 := CE.out.2.1 4 _ rfl
     have y5 := CE.out.2.1 5 _ rfl
     have y6 := CE.out.2.1 6 _ rfl
     have y7 := CE.out.2.1 7 _ rfl
     have y8 := CE.out.2.1 8 _ rfl
     have y9 := CE.out.2.1 9 _ rfl
     have y10 := CE.out.2.1 10 _ rfl
     have y11 := CE.out.2.1 11 _ rfl
     have y12 := CE.out.2.1 12 _ rfl
     go_upto_region 3 with (fail)
     go_quiet (fail)
     have BQ := hid (below_drewN B0.out nq)
     have CQ := hid (Ce.below CE.out (below_drewN (Below.refl _ _) nq))
     have lPq : w.heap.size < w1.heap.size := CE.out.1
     have lQ : w1.heap.size ≤ (w1.drewN nq).heap.size := by simp
     clear B0 CE
     clear y0 y1 y2 y3 y4 y5 y6 y7 y8 y9 y10 y11 y12
     generalize w1.drewN nq = wq at *
     have y0 := CQ.out.2.1 0 _ rfl
     have y1 := CQ.out.2.1 1 _ rfl
     have y2 := CQ.out.2.1 2 _ rfl
     have y3 := CQ.out.2.1 3 _ rfl
     have y4 := CQ.out.2.1 4 _ rfl
     have y5 := CQ.out.2.1 5 _ rfl
     have y6 := CQ.out.2.1 6 _ rfl
     have y7 := CQ.out.2.1 7 _ rfl
     have y8 := CQ.out.2.1 8 _ rfl
     have y9 := CQ.out.2.1 9 _ rfl
     have y10 := CQ.out.2.1 10 _ rfl
     have y11 := CQ.out.2.1 11 _ rfl
     have y12 := CQ.out.2.1 12 _ rfl
     go_wp2_with fail
     refine (R_life.out _).mono ?_
     rintro e w' ⟨rfl, rfl⟩
     go_wp2_with fail
     refine (R_piece.out _).mono ?_
     rintro e w' ⟨rfl, rfl⟩
     go_wp2_with fail
     refine (R_code.out _).mono ?_
     rintro e w' ⟨rfl, rfl⟩
     go_wp2_with fail
     refine (R_src.out _).mono ?_
     rintro e w' ⟨rfl, rfl⟩
     go_wp2_with fail
     refine bodyPost_ret (v := .tuple #[.slice none 0 0, .int .i64 14]) (by simp [results, Tryz.results14, go_sem]) rfl ?_
     rw [show buildE p = 14 from buildE_rng hk.out (by unfold rangeB; rw [KH.out]; simp [r_life, r_piece, r_code, r_src])]
     exact outd_no (by decide) BQ.out
    ·rw [r_src] at R_src
     cases r_dst : inR p.dst 4294967295
     ·rw [r_dst] at R_dst
      go_enter Tryz.func14, Tryz.ntmps14
      go_upto_region 1 with (fail)
      generalize (w.alloc (.cells #[.int .i64 p.kind, .int .i64 p.life, .int .i64 p.piece, .int .i64 p.src, .int .i64 p.dst, .int .i64 p.fp, .int .i64 p.tp, .int .i64 p.flags, .int .i64 p.label, .bool p.bare, .int .i64 p.code, .slice AO p.no cO, .slice AD p.nd cD] 39)) = w1 at *
      have y0 := CE.out.2.1 0 _ rfl
      have y1 := CE.out.2.1 1 _ rfl
      have y2 := CE.out.2.1 2 _ rfl
      have y3 := CE.out.2.1 3 _ rfl
      have y4 := CE.out.2.1 4 _ rfl
      have y5 := CE.out.2.1 5 _ rfl
      have y6 := CE.out.2.1 6 _ rfl
      have y7 := CE.out.2.1 7 _ rfl
      have y8 := CE.out.2.1 8 _ rfl
      have y9 := CE.out.2.1 9 _ rfl
      have y10 := CE.out.2.1 10 _ rfl
      have y11 := CE.out.2.1 11 _ rfl
      have y12 := CE.out.2.1 12 _ rfl
      go_upto_region 3 with (fail)
      go_quiet (fail)
      have BQ := hid (below_drewN B0.out nq)
      have CQ := hid (Ce.below CE.out (below_drewN (Below.refl _ _) nq))
      have lPq : w.heap.size < w1.heap.size := CE.out.1
      have lQ : w1.heap.size ≤ (w1.drewN nq).heap.size := by simp
      clear B0 CE
      clear y0 y1 y2 y3 y4 y5 y6 y7 y8 y9 y10 y11 y12
      generalize w1.drewN nq = wq at *
      have y0 := CQ.out.2.1 0 _ rfl
      have y1 := CQ.out.2.1 1 _ rfl
      have y2 := CQ.out.2.1 2 _ rfl
      have y3 := CQ.out.2.1 3 _ rfl
      have y4 := CQ.out.2.1 4 _ rfl
      have y5 := CQ.out.2.1 5 _ rfl
      have y6 := CQ.out.2.1 6 _ rfl
      have y7 := CQ.out.2.1 7 _ rfl
      have y8 := CQ.out.2.1 8 _ rfl
      have y9 := CQ.out.2.1 9 _ rfl
      have y10 := CQ.out.2.1 10 _ rfl
      have y11 := CQ.out.2.1 11 _ rfl
      have y12 := CQ.out.2.1 12 _ rfl
      go_wp2_with fail
      refine (R_life.out _).mono ?_
      rintro e w' ⟨rfl, rfl⟩
      go_wp2_with fail
      refine (R_piece.out _).mono ?_
      rintro e w' ⟨rfl, rfl⟩
      go_wp2_with fail
      refine (R_code.out _).mono ?_
      rintro e w' ⟨rfl, rfl⟩
      go_wp2_with fail
      refine (R_src.out _).mono ?_
      rintro e w' ⟨rfl, rfl⟩
      go_wp2_with fail
      refine (R_dst.out _).mono ?_
      rintro e w' ⟨rfl, rfl⟩
      go_wp2_with fail
      refine bodyPost_ret (v := .tuple #[.slice none 0 0, .int .i64 14]) (by simp [results, Tryz.results14, go_sem]) rfl ?_
      rw [show buildE p = 14 from buildE_rng hk.out (by unfold rangeB; rw [KH.out]; simp [r_life, r_piece, r_code, r_src, r_dst])]
      exact outd_no (by decide) BQ.out
     ·rw [r_dst] at R_dst
      have hr : rangeB p = true := by unfold rangeB; rw [KH.out]; simp [r_life, r_piece, r_code, r_src, r_dst]
      clear r_life r_piece r_code r_src r_dst
      obtain ⟨⟨rl0, rl1⟩, ⟨rp0, rp1⟩, rc, rf⟩ := range_facts hr
      have N5 := hid (show ¬ (p.kind = 1 ∧ 40 < p.no) from fun e => by have := e.1; rw [KH.out] at this; cases this)
      have HL : Hid ((lenP p : Int) = 20 + (p.nd : Int)) := hid (by unfold lenP; rw [KH.out, if_pos rfl]; omega)
      cases d24 : decide ((p.nd : Int) < 24)
      ·have N4 := hid (show ¬ (p.kind = 3 ∧ p.nd < 24) from fun e => by have := e.2; simp at d24; omega)
       cases d15 : decide ((1500 : Int) < 20 + (p.nd : Int))
       ·have N3 := hid (show ¬ (p.kind = 3 ∧ p.nd < 24 ∨ 1500 < lenP p) from fun e => by rcases e with e | e; (exact N4.out e); (have := HL.out; simp at d15; omega))
        have hE := buildE_ok hk.out hr N5.out N3.out
        obtain ⟨e1, e2, e3, e4, e5, e6⟩ := buildE_0 hE
        clear e1 e3 e4
        have KL := hid (kind_of hE)
        have rk0 : 0 ≤ p.kind := by have := KL.out; omega
        have rk1 : p.kind ≤ 255 := by have := KL.out; omega
        have RB := hid (rawF_B hgd hgo hE)
        have HDB := hid (hedF_B hgd hgo hE)
        have FB := hid (f16_B hk.out ⟨rl0, rl1⟩ ⟨rp0, rp1⟩)
        have HE := hid hE
        clear hE hgo hgd N5 N3 hr e2
        have u0 : IntKind.u8.wrap p.kind = p.kind := by rw [IntKind.wrap_u8]; omega
        have u1 : IntKind.u8.wrap p.life = p.life := by rw [IntKind.wrap_u8]; omega
        have u2 : IntKind.u8.wrap p.piece = p.piece := by rw [IntKind.wrap_u8]; omega
        obtain ⟨n, hn⟩ : ∃ n, n = lenP p := ⟨_, rfl⟩
        have HN := hid hn
        have hV : (20 + (p.nd : Int)) = (n : Int) := by have := HL.out; omega
        have hVL : Hid ((20 + (p.nd : Int)) = (lenP p : Int)) := hid (by rw [hV, hn])
        replace hV := hid hV
        rw [← hn] at e5 e6
        clear hn
        have rc' := rc KH.out
        obtain ⟨rc0, rc1⟩ := rc'
        have n20a : n ≤ 20 + p.nd := by have := hV.out; omega
        have n20b : 20 + p.nd ≤ n := by have := hV.out; omega
        clear rc rf
        have lnd : p.nd ≤ 1500 := by omega
        go_enter Tryz.func14, Tryz.ntmps14
        go_upto_region 1 with (fail)
        generalize (w.alloc (.cells #[.int .i64 p.kind, .int .i64 p.life, .int .i64 p.piece, .int .i64 p.src, .int .i64 p.dst, .int .i64 p.fp, .int .i64 p.tp, .int .i64 p.flags, .int .i64 p.label, .bool p.bare, .int .i64 p.code, .slice AO p.no cO, .slice AD p.nd cD] 39)) = w1 at *
        have y0 := CE.out.2.1 0 _ rfl
        have y1 := CE.out.2.1 1 _ rfl
        have y2 := CE.out.2.1 2 _ rfl
        have y3 := CE.out.2.1 3 _ rfl
        have y4 := CE.out.2.1 4 _ rfl
        have y5 := CE.out.2.1 5 _ rfl
        have y6 := CE.out.2.1 6 _ rfl
        have y7 := CE.out.2.1 7 _ rfl
        have y8 := CE.out.2.1 8 _ rfl
        have y9 := CE.out.2.1 9 _ rfl
        have y10 := CE.out.2.1 10 _ rfl
        have y11 := CE.out.2.1 11 _ rfl
        have y12 := CE.out.2.1 12 _ rfl
        go_upto_region 3 with (fail)
        go_quiet (fail)
        have BQ := hid (below_drewN B0.out nq)
        have CQ := hid (Ce.below CE.out (below_drewN (Below.refl _ _) nq))
        have lPq : w.heap.size < w1.heap.size := CE.out.1
        have lQ : w1.heap.size ≤ (w1.drewN nq).heap.size := by simp
        clear B0 CE
        clear y0 y1 y2 y3 y4 y5 y6 y7 y8 y9 y10 y11 y12
        generalize w1.drewN nq = wq at *
        have y0 := CQ.out.2.1 0 _ rfl
        have y1 := CQ.out.2.1 1 _ rfl
        have y2 := CQ.out.2.1 2 _ rfl
        have y3 := CQ.out.2.1 3 _ rfl
        have y4 := CQ.out.2.1 4 _ rfl
        have y5 := CQ.out.2.1 5 _ rfl
        have y6 := CQ.out.2.1 6 _ rfl
        have y7 := CQ.out.2.1 7 _ rfl
        have y8 := CQ.out.2.1 8 _ rfl
        have y9 := CQ.out.2.1 9 _ rfl
        have y10 := CQ.out.2.1 10 _ rfl
        have y11 := CQ.out.2.1 11 _ rfl
        have y12 := CQ.out.2.1 12 _ rfl
        go_wp2_with fail
        refine (R_life.out _).mono ?_
        rintro e w' ⟨rfl, rfl⟩
        go_wp2_with fail
        refine (R_piece.out _).mono ?_
        rintro e w' ⟨rfl, rfl⟩
        go_wp2_with fail
        refine (R_code.out _).mono ?_
        rintro e w' ⟨rfl, rfl⟩
        go_wp2_with fail
        refine (R_src.out _).mono ?_
        rintro e w' ⟨rfl, rfl⟩
        go_wp2_with fail
        refine (R_dst.out _).mono ?_
        rintro e w' ⟨rfl, rfl⟩
        clear R_life R_piece R_code R_src R_dst
        go_upto_region 16 with (at_make; refine wp_make_c rfl _ _ rfl wq.heap.size 16 n _ _ rfl rfl rfl hV.out (by omega) (by omega) (Nat.le_refl _) ?_; intro w3 hO hb2; have HO := hid hO; have HC := hid (CQ.out.below hb2); have HB := hid (BQ.out.trans (hb2.mono BQ.out.size)); clear hO hb2)
        clear CQ BQ
        clear y0 y1 y2 y3 y4 y5 y6 y7 y8 y9 y10 y11 y12
        have lR : w.heap.size < wq.heap.size := by omega
        obtain ⟨g', e, hB, hgs, hce, hfr⟩ := Ow.block_ HO.out (by omega)
        injection e with e
        injection e with e _
        subst e
        have c0 := hce 0 (by omega)
        have c1 := hce 1 (by omega)
        have c12 := hce 12 (by omega)
        have f0 := hfr 0
        have f1 := hfr 1
        have f12 := hfr 12
        clear hce hfr
        refine wp_region_held_drew (S := fun w' => Ce w' w.heap.size [.int .i64 p.kind, .int .i64 p.life, .int .i64 p.piece, .int .i64 p.src, .int .i64 p.dst, .int .i64 p.fp, .int .i64 p.tp, .int .i64 p.flags, .int .i64 p.label, .bool p.bare, .int .i64 p.code, .slice AO p.no cO, .slice AD p.nd cD]) (by kernel_rfl) ?_ (fun hHeld => ?_)
        ·exact HC.out.drew_
        refine tkq 0 hHeld ?_
        refine tkq 1 hHeld ?_
        refine tkq 2 hHeld ?_
        refine tkq 3 hHeld ?_
        refine tkq 4 hHeld ?_ (hy := by intro w hSw; (try dsimp only at hSw); have q0 := hSw.2.1 0 _ rfl; have q1 := hSw.2.1 1 _ rfl; have q2 := hSw.2.1 2 _ rfl; go_simp; (try with_reducible rfl))
        refine tkq 5 hHeld ?_
        refine tkq 6 hHeld ?_
        refine tkq 7 hHeld ?_ (hy := by intro w hSw; (try dsimp only at hSw); have q0 := hSw.2.1 0 _ rfl; have q1 := hSw.2.1 1 _ rfl; have q2 := hSw.2.1 2 _ rfl; go_simp; (try with_reducible rfl))
        refine tkq 8 hHeld ?_
        refine tkq 9 hHeld ?_
        refine tkq 10 hHeld ?_ (hy := by intro w hSw; (try dsimp only at hSw); have q0 := hSw.2.1 0 _ rfl; have q1 := hSw.2.1 1 _ rfl; have q2 := hSw.2.1 2 _ rfl; go_simp; (try with_reducible rfl))
        refine tkq 11 hHeld ?_
        refine tkq 12 hHeld ?_
        refine only 13 rfl (by kernel_rfl) rfl (fun K hK => ?_)
        go_simp
        have hH0 : Ce (w3.setCell ⟨wq.heap.size, 0, none⟩ (.int .u8 p.kind)).drew w.heap.size [.int .i64 p.kind, .int .i64 p.life, .int .i64 p.piece, .int .i64 p.src, .int .i64 p.dst, .int .i64 p.fp, .int .i64 p.tp, .int .i64 p.flags, .int .i64 p.label, .bool p.bare, .int .i64 p.code, .slice AO p.no cO, .slice AD p.nd cD] := Ce.drew_ (HC.out.grown (gs 0 (.int .u8 p.kind) (World.grownBy.refl w3 (some wq.heap.size))) (fun e => by injection e with e; omega))
        refine hK.out _ _ hH0 (fun _ => ?_)
        clear hK
        (try simp only [Act.put, List.setIfInBounds_toArray, List.set_cons_zero, List.set_cons_succ])
        refine tkq 14 hH0 ?_
        refine only 15 rfl (by kernel_rfl) rfl (fun K hK => ?_)
        go_simp
        have hH1 : Ce ((w3.setCell ⟨wq.heap.size, 0, none⟩ (.int .u8 p.kind)).setCell ⟨wq.heap.size, 1, none⟩ (.int .u8 p.life)).drew w.heap.size [.int .i64 p.kind, .int .i64 p.life, .int .i64 p.piece, .int .i64 p.src, .int .i64 p.dst, .int .i64 p.fp, .int .i64 p.tp, .int .i64 p.flags, .int .i64 p.label, .bool p.bare, .int .i64 p.code, .slice AO p.no cO, .slice AD p.nd cD] := Ce.drew_ (HC.out.grown (gs 1 (.int .u8 p.life) (gs 0 (.int .u8 p.kind) (World.grownBy.refl w3 (some wq.heap.size)))) (fun e => by injection e with e; omega))
        refine hK.out _ _ hH1 (fun _ => ?_)
        clear hK
        (try simp only [Act.put, List.setIfInBounds_toArray, List.set_cons_zero, List.set_cons_succ])
        refine tkq 16 hH1 ?_
        refine only 17 rfl (by kernel_rfl) rfl (fun K hK => ?_)
        go_simp
        have hH2 : Ce (((w3.setCell ⟨wq.heap.size, 0, none⟩ (.int .u8 p.kind)).setCell ⟨wq.heap.size, 1, none⟩ (.int .u8 p.life)).setCell ⟨wq.heap.size, 12, none⟩ (.int .u8 p.piece)).drew w.heap.size [.int .i64 p.kind, .int .i64 p.life, .int .i64 p.piece, .int .i64 p.src, .int .i64 p.dst, .int .i64 p.fp, .int .i64 p.tp, .int .i64 p.flags, .int .i64 p.label, .bool p.bare, .int .i64 p.code, .slice AO p.no cO, .slice AD p.nd cD] := Ce.drew_ (HC.out.grown (gs 12 (.int .u8 p.piece) (gs 1 (.int .u8 p.life) (gs 0 (.int .u8 p.kind) (World.grownBy.refl w3 (some wq.heap.size))))) (fun e => by injection e with e; omega))
        refine hK.out _ _ hH2 (fun _ => ?_)
        clear hK
        (try simp only [Act.put, List.setIfInBounds_toArray, List.set_cons_zero, List.set_cons_succ])
        refine wpAnyH_done (by kernel_rfl) ?_ _
        have HOn := hid (Ow.drew (OB.store (OB.store (OB.store (HO.out) 0 p.kind) 1 p.life) 12 p.piece))
        have HBn := hid ((HB.out.trans (below_of_grown (gs 12 (.int .u8 p.piece) (gs 1 (.int .u8 p.life) (gs 0 (.int .u8 p.kind) (World.grownBy.refl w3 (some wq.heap.size))))) (by omega) HB.out.size)).drew)
        have HCn := hid hH2
        clear hH0 hH1 hH2 hHeld HO HC HB
        have HO := HOn
        have HC := HCn
        have HB := HBn
        clear HOn HCn HBn
        generalize (((w3.setCell ⟨wq.heap.size, 0, none⟩ (.int .u8 p.kind)).setCell ⟨wq.heap.size, 1, none⟩ (.int .u8 p.life)).setCell ⟨wq.heap.size, 12, none⟩ (.int .u8 p.piece)).drew = w4 at *
        clear c0 c1 c12 f0 f1 f12
        go_upto_region 17 with (fail)
        go_wp2_with fail
        refine (rput_anyW HO.out 2 2 (20 + (p.nd : Int)) (by omega) (by omega) (by omega)).mono ?_
        rintro e w5 ⟨rfl, hO, hg⟩
        have HOn := hid hO
        have HCn := hid (HC.out.grown hg (fun e => by injection e with e; omega))
        have HBn := hid (HB.out.trans (below_of_grown hg (by omega) HB.out.size))
        clear hO hg HO HC HB
        have HO := HOn
        have HC := HCn
        have HB := HBn
        clear HOn HCn HBn
        go_upto_region 18 with (fail)
        have yy := HC.out.2.1 3 _ rfl
        go_wp2_with fail
        refine (rput_anyW HO.out 4 4 p.src (by omega) (by omega) (by omega)).mono ?_
        rintro e w6 ⟨rfl, hO, hg⟩
        clear yy
        have HOn := hid hO
        have HCn := hid (HC.out.grown hg (fun e => by injection e with e; omega))
        have HBn := hid (HB.out.trans (below_of_grown hg (by omega) HB.out.size))
        clear hO hg HO HC HB
        have HO := HOn
        have HC := HCn
        have HB := HBn
        clear HOn HCn HBn
        go_upto_region 19 with (fail)
        have yy := HC.out.2.1 4 _ rfl
        go_wp2_with fail
        refine (rput_anyW HO.out 8 4 p.dst (by omega) (by omega) (by omega)).mono ?_
        rintro e w7 ⟨rfl, hO, hg⟩
        clear yy
        have HOn := hid hO
        have HCn := hid (HC.out.grown hg (fun e => by injection e with e; omega))
        have HBn := hid (HB.out.trans (below_of_grown hg (by omega) HB.out.size))
        clear hO hg HO HC HB
        have HO := HOn
        have HC := HCn
        have HB := HBn
        clear HOn HCn HBn
        rw [hVL.out] at HO
        go_upto_region 20 with (fail)
        have OF := hid (re_i64 (rof_any (some ⟨wq.heap.size, 0, none⟩) 16 n _ w7 HO.out.sl1 FB.out (by omega)) (show 65535 - norm (tot _ 16) = 65535 - norm (tot (rawF p) 16) from by rw [tot_ext _ (rawF p) 16 (fun j hj => raw16 hj)]))
        go_wp2_with fail
        refine OF.out.mono ?_
        rintro e w' ⟨rfl, rfl⟩
        clear OF
        go_wp2_with fail
        refine (rput_anyW HO.out 14 2 (65535 - norm (tot (rawF p) 16)) (by omega) (by omega) (by omega)).mono ?_
        rintro e w8 ⟨rfl, hO, hg⟩
        have HOn := hid hO
        have HCn := hid (HC.out.grown hg (fun e => by injection e with e; omega))
        have HBn := hid (HB.out.trans (below_of_grown hg (by omega) HB.out.size))
        clear hO hg HO HC HB
        have HO := HOn
        have HC := HCn
        have HB := HBn
        clear HOn HCn HBn
        replace HO := hid (show OB w8 wq.heap.size (.slice (some ⟨wq.heap.size, 0, none⟩) 16 n) 16 (hed16 p) from HO.out)
        have y10 := HC.out.2.1 10 _ rfl
        have u10 : IntKind.u8.wrap p.code = p.code := by rw [IntKind.wrap_u8]; omega
        have RC := hid (rowc (w := w8) (x := p.code)).sl1
        have HO2 := hid (Ow.alloc HO.out (.cells #[.int .u8 p.code, .int .u8 0, .int .u8 0, .int .u8 0] 5))
        have HC2 := hid (HC.out.alloc (.cells #[.int .u8 p.code, .int .u8 0, .int .u8 0, .int .u8 0] 5))
        have HB2 := hid (HB.out.alloc HB.out.size (.cells #[.int .u8 p.code, .int .u8 0, .int .u8 0, .int .u8 0] 5))
        clear HO HC HB
        have HO := HO2
        have HC := HC2
        have HB := HB2
        clear HO2 HC2 HB2
        go_upto_region 28 with (at_builtin; refine wp_app_b rfl (.tmp 166) (.tmp 170) rfl wq.heap.size _ (16) _ rfl HO.out _ (4) _ (fun j => if j = 0 then p.code else 0) rfl RC.out (by omega) (ow_base HO.out (by omega)) ?_; intro A9 c9 w9 h1 h2 h3 h4 h5 h6; have HOn := hid h1; have hcn := h2; have HCn := hid (HC.out.below_' h4 (by omega)); have HBn := hid (HB.out.trans (h4.mono (by omega))); clear h1 h2 h3 h4 h5 h6)
        clear HO HC HB
        have HO := HOn
        have HC := HCn
        have HB := HBn
        clear HOn HCn HBn
        clear y10 RC
        have y12 := HC.out.2.1 12 _ rfl
        go_upto_region 32 with (at_builtin; refine wp_app_b rfl (.tmp 190) (.tmp 192) rfl wq.heap.size _ (16 + 4) _ rfl HO.out _ (p.nd) _ p.gd rfl (HDW.out _ HB.out) (by omega) (ow_base HO.out (by omega)) ?_; intro A10 c10 w10 h1 h2 h3 h4 h5 h6; have HOn := hid h1; have hcn := h2; have HCn := hid (HC.out.below_' h4 (by omega)); have HBn := hid (HB.out.trans (h4.mono (by omega))); clear h1 h2 h3 h4 h5 h6)
        clear HO HC HB
        have HO := HOn
        have HC := HCn
        have HB := HBn
        clear HOn HCn HBn
        clear y12
        have eL : 16 + 4 + p.nd = n := by omega
        have eF : ∀ j, j < n → (fun j => if j < 16 + 4 then (if j < 16 then hed16 p j else if j - 16 = 0 then p.code else 0) else p.gd (j - (16 + 4))) j = hedF p j := fun j hj => lay3 KH.out j (by omega)
        replace HO := hid (OB.as2 HO.out (fun j hj => eF j (by omega)))
        rw [eL] at *
        clear eF
        obtain ⟨Z, e, hB, hgs, hce, hfr⟩ := Ow.block_ HO.out (by omega)
        subst e
        clear hce hfr hgs
        have SM := hid (fun (W : World) (hW : By W (some ⟨Z, 0, none⟩) n (hedF p)) => rsummed_any (some ⟨Z, 0, none⟩) n c10 (hedF p) W hW HDB.out e6 (by omega) e5)
        go_wp2_with fail
        refine (SM.out _ HO.out.sl1).mono ?_
        rintro e w20 ⟨A2, c2, rfl, hS, hb20⟩
        have HOn := hid (OB.keep_ HO.out hb20)
        have HCn := hid (HC.out.below hb20)
        have HBn := hid (HB.out.trans (hb20.mono HB.out.size))
        have OF := hid (re_i64 (rof_any A2 _ c2 _ _ hS (sumF_B HDB.out n) (by unfold sumN; split <;> omega)) (show 65535 - norm (tot (sumF (hedF p) n) (sumN (hedF p) n)) = lastS p from by unfold lastS; rw [HN.out]))
        clear hS hb20 SM HO HC HB
        have HO := HOn
        have HC := HCn
        have HB := HBn
        clear HOn HCn HBn
        obtain ⟨x, hx⟩ : ∃ x, x = lastS p := ⟨_, rfl⟩
        have HX := hid hx
        rw [← hx] at OF
        clear hx
        go_wp2_with fail
        refine OF.out.mono ?_
        rintro e w' ⟨rfl, rfl⟩
        clear OF
        have PA := hid (fun w => re_i64 (place_any p.kind w) (show ((sumA p.kind : Nat) : Int) = 18 from by rw [KH.out]; rfl))
        have y0 := HC.out.2.1 0 _ rfl
        go_wp2_with fail
        refine (PA.out _).mono ?_
        rintro e w' ⟨rfl, rfl⟩
        go_wp2_with fail
        refine (rput_anyW HO.out 18 2 x (by omega) (by omega) (by omega)).mono ?_
        rintro e w21 ⟨rfl, hO, hg⟩
        have HOn := hid hO
        have HBn := hid (HB.out.trans (below_of_grown hg (by omega) HB.out.size))
        clear hO hg
        go_wp2_with fail
        refine bodyPost_ret (v := .tuple #[.slice (some ⟨Z, 0, none⟩) n c10, .int .i64 0]) (by simp [results, Tryz.results14, go_sem]) rfl ?_
        rw [HE.out, ← HN.out]
        refine ⟨_, rfl, ?_, HBn.out⟩
        refine OB.base (OB.as2 HOn.out (fun j hj => ?_)) (by omega)
        rw [built_3 (by rw [KH.out]; decide), HX.out, show sumA p.kind = 18 from by rw [KH.out]; rfl]
       ·replace hr := hid hr
        go_enter Tryz.func14, Tryz.ntmps14
        go_upto_region 1 with (fail)
        generalize (w.alloc (.cells #[.int .i64 p.kind, .int .i64 p.life, .int .i64 p.piece, .int .i64 p.src, .int .i64 p.dst, .int .i64 p.fp, .int .i64 p.tp, .int .i64 p.flags, .int .i64 p.label, .bool p.bare, .int .i64 p.code, .slice AO p.no cO, .slice AD p.nd cD] 39)) = w1 at *
        have y0 := CE.out.2.1 0 _ rfl
        have y1 := CE.out.2.1 1 _ rfl
        have y2 := CE.out.2.1 2 _ rfl
        have y3 := CE.out.2.1 3 _ rfl
        have y4 := CE.out.2.1 4 _ rfl
        have y5 := CE.out.2.1 5 _ rfl
        have y6 := CE.out.2.1 6 _ rfl
        have y7 := CE.out.2.1 7 _ rfl
        have y8 := CE.out.2.1 8 _ rfl
        have y9 := CE.out.2.1 9 _ rfl
        have y10 := CE.out.2.1 10 _ rfl
        have y11 := CE.out.2.1 11 _ rfl
        have y12 := CE.out.2.1 12 _ rfl
        go_upto_region 3 with (fail)
        go_quiet (fail)
        have BQ := hid (below_drewN B0.out nq)
        have CQ := hid (Ce.below CE.out (below_drewN (Below.refl _ _) nq))
        have lPq : w.heap.size < w1.heap.size := CE.out.1
        have lQ : w1.heap.size ≤ (w1.drewN nq).heap.size := by simp
        clear B0 CE
        clear y0 y1 y2 y3 y4 y5 y6 y7 y8 y9 y10 y11 y12
        generalize w1.drewN nq = wq at *
        have y0 := CQ.out.2.1 0 _ rfl
        have y1 := CQ.out.2.1 1 _ rfl
        have y2 := CQ.out.2.1 2 _ rfl
        have y3 := CQ.out.2.1 3 _ rfl
        have y4 := CQ.out.2.1 4 _ rfl
        have y5 := CQ.out.2.1 5 _ rfl
        have y6 := CQ.out.2.1 6 _ rfl
        have y7 := CQ.out.2.1 7 _ rfl
        have y8 := CQ.out.2.1 8 _ rfl
        have y9 := CQ.out.2.1 9 _ rfl
        have y10 := CQ.out.2.1 10 _ rfl
        have y11 := CQ.out.2.1 11 _ rfl
        have y12 := CQ.out.2.1 12 _ rfl
        go_wp2_with fail
        refine (R_life.out _).mono ?_
        rintro e w' ⟨rfl, rfl⟩
        go_wp2_with fail
        refine (R_piece.out _).mono ?_
        rintro e w' ⟨rfl, rfl⟩
        go_wp2_with fail
        refine (R_code.out _).mono ?_
        rintro e w' ⟨rfl, rfl⟩
        go_wp2_with fail
        refine (R_src.out _).mono ?_
        rintro e w' ⟨rfl, rfl⟩
        go_wp2_with fail
        refine (R_dst.out _).mono ?_
        rintro e w' ⟨rfl, rfl⟩
        go_wp2_with fail
        refine bodyPost_ret (v := .tuple #[.slice none 0 0, .int .i64 3]) (by simp [results, Tryz.results14, go_sem]) rfl ?_
        rw [show buildE p = 3 from buildE_len hk.out hr.out N5.out (.inr (by have := HL.out; simp at d15; omega))]
        exact outd_no (by decide) BQ.out
      ·replace hr := hid hr
       go_enter Tryz.func14, Tryz.ntmps14
       go_upto_region 1 with (fail)
       generalize (w.alloc (.cells #[.int .i64 p.kind, .int .i64 p.life, .int .i64 p.piece, .int .i64 p.src, .int .i64 p.dst, .int .i64 p.fp, .int .i64 p.tp, .int .i64 p.flags, .int .i64 p.label, .bool p.bare, .int .i64 p.code, .slice AO p.no cO, .slice AD p.nd cD] 39)) = w1 at *
       have y0 := CE.out.2.1 0 _ rfl
       have y1 := CE.out.2.1 1 _ rfl
       have y2 := CE.out.2.1 2 _ rfl
       have y3 := CE.out.2.1 3 _ rfl
       have y4 := CE.out.2.1 4 _ rfl
       have y5 := CE.out.2.1 5 _ rfl
       have y6 := CE.out.2.1 6 _ rfl
       have y7 := CE.out.2.1 7 _ rfl
       have y8 := CE.out.2.1 8 _ rfl
       have y9 := CE.out.2.1 9 _ rfl
       have y10 := CE.out.2.1 10 _ rfl
       have y11 := CE.out.2.1 11 _ rfl
       have y12 := CE.out.2.1 12 _ rfl
       go_upto_region 3 with (fail)
       go_quiet (fail)
       have BQ := hid (below_drewN B0.out nq)
       have CQ := hid (Ce.below CE.out (below_drewN (Below.refl _ _) nq))
       have lPq : w.heap.size < w1.heap.size := CE.out.1
       have lQ : w1.heap.size ≤ (w1.drewN nq).heap.size := by simp
       clear B0 CE
       clear y0 y1 y2 y3 y4 y5 y6 y7 y8 y9 y10 y11 y12
       generalize w1.drewN nq = wq at *
       have y0 := CQ.out.2.1 0 _ rfl
       have y1 := CQ.out.2.1 1 _ rfl
       have y2 := CQ.out.2.1 2 _ rfl
       have y3 := CQ.out.2.1 3 _ rfl
       have y4 := CQ.out.2.1 4 _ rfl
       have y5 := CQ.out.2.1 5 _ rfl
       have y6 := CQ.out.2.1 6 _ rfl
       have y7 := CQ.out.2.1 7 _ rfl
       have y8 := CQ.out.2.1 8 _ rfl
       have y9 := CQ.out.2.1 9 _ rfl
       have y10 := CQ.out.2.1 10 _ rfl
       have y11 := CQ.out.2.1 11 _ rfl
       have y12 := CQ.out.2.1 12 _ rfl
       go_wp2_with fail
       refine (R_life.out _).mono ?_
       rintro e w' ⟨rfl, rfl⟩
       go_wp2_with fail
       refine (R_piece.out _).mono ?_
       rintro e w' ⟨rfl, rfl⟩
       go_wp2_with fail
       refine (R_code.out _).mono ?_
       rintro e w' ⟨rfl, rfl⟩
       go_wp2_with fail
       refine (R_src.out _).mono ?_
       rintro e w' ⟨rfl, rfl⟩
       go_wp2_with fail
       refine (R_dst.out _).mono ?_
       rintro e w' ⟨rfl, rfl⟩
       go_wp2_with fail
       refine bodyPost_ret (v := .tuple #[.slice none 0 0, .int .i64 3]) (by simp [results, Tryz.results14, go_sem]) rfl ?_
       rw [show buildE p = 3 from buildE_len hk.out hr.out N5.out (.inl ⟨KH.out, by simp at d24; omega⟩)]
       exact outd_no (by decide) BQ.out
end Go.Proofs.YteapnfdpkjbfhaaGreat
