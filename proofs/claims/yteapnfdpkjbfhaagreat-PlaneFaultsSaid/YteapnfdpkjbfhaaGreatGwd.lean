/- May a packet be built? A packet's body. Build. -/
import Derived.Test.YteapnfdpkjbfhaaGreatGa
import Derived.Test.YteapnfdpkjbfhaaGreatGwc
import Derived.BigQuiet
import Derived.Deep.RegionHeld3
import Derived.Deep.Cut
namespace Go.Proofs.YteapnfdpkjbfhaaGreat
set_option linter.unusedVariables false
set_option linter.unusedSimpArgs false
open Go.RowKit Go.ChangeShapes Go.WideShapes Go.ChangeAt
set_option maxHeartbeats 4000000 in
theorem length_any (p : Pk) (AO : Option Addr) (cO : Nat) (AD : Option Addr) (cD : Nat) (w : World) (h1 : p.no ≤ 1000000) (h2 : p.nd ≤ 1000000) :
 Calls Tryz.prog 162 #[.agg #[.int .i64 p.kind, .int .i64 p.life, .int .i64 p.piece, .int .i64 p.src, .int .i64 p.dst, .int .i64 p.fp, .int .i64 p.tp, .int .i64 p.flags, .int .i64 p.label, .bool p.bare, .int .i64 p.code, .slice AO p.no cO, .slice AD p.nd cD]] w fun e w' => e = .returned (.int .i64 (lenP p : Int)) ∧ Below w.heap.size w w' := by
 cases k3 : (p.kind == 3)
 ·cases k2 : (p.kind == 2)
  ·have HL : Hid ((lenP p : Int) = 24 + (p.no : Int) + p.nd) := hid (by unfold lenP; rw [if_neg (by simpa using k3), if_neg (by simpa using k2)]; omega)
   go_enter Tryz.func162, Tryz.ntmps162
   go_wp2_with fail
   go_ret
   exact ⟨ret_i64 HL.out.symm, (Below.refl _ _).alloc (Nat.le_refl _) _⟩
  ·have HL : Hid ((lenP p : Int) = 24 + (p.nd : Int)) := hid (by unfold lenP; rw [if_neg (by simpa using k3), if_pos (by simpa using k2)]; omega)
   go_enter Tryz.func162, Tryz.ntmps162
   go_wp2_with fail
   go_ret
   exact ⟨ret_i64 HL.out.symm, (Below.refl _ _).alloc (Nat.le_refl _) _⟩
 ·have HL : Hid ((lenP p : Int) = 20 + (p.nd : Int)) := hid (by unfold lenP; rw [if_pos (by simpa using k3)]; omega)
  go_enter Tryz.func162, Tryz.ntmps162
  go_wp2_with fail
  go_ret
  exact ⟨ret_i64 HL.out.symm, (Below.refl _ _).alloc (Nat.le_refl _) _⟩
set_option maxHeartbeats 4000000 in
theorem inbounds_any (p : Pk) (AO : Option Addr) (cO : Nat) (AD : Option Addr) (cD : Nat) (w : World) :
 Calls Tryz.prog 161 #[.agg #[.int .i64 p.kind, .int .i64 p.life, .int .i64 p.piece, .int .i64 p.src, .int .i64 p.dst, .int .i64 p.fp, .int .i64 p.tp, .int .i64 p.flags, .int .i64 p.label, .bool p.bare, .int .i64 p.code, .slice AO p.no cO, .slice AD p.nd cD]] w fun e w' => e = .returned (.bool (rangeB p)) ∧ Below w.heap.size w w' := by
 have R_life := hid (fun w => wwithin_any p.life 255 w)
 have R_piece := hid (fun w => wwithin_any p.piece 255 w)
 have R_src := hid (fun w => wwithin_any p.src 4294967295 w)
 have R_dst := hid (fun w => wwithin_any p.dst 4294967295 w)
 have R_code := hid (fun w => wwithin_any p.code 255 w)
 have R_fp := hid (fun w => wwithin_any p.fp 65535 w)
 have R_tp := hid (fun w => wwithin_any p.tp 65535 w)
 have R_label := hid (fun w => wwithin_any p.label 65535 w)
 have R_flags := hid (fun w => wwithin_any p.flags 15 w)
 cases r_life : inR p.life 255
 ·rw [r_life] at R_life
  go_enter Tryz.func161, Tryz.ntmps161
  go_wp2_with fail
  refine (R_life.out _).mono ?_
  rintro e w' ⟨rfl, rfl⟩
  go_wp2_with fail
  go_ret
  exact ⟨ret_bool (by unfold rangeB; simp [r_life]), (Below.refl _ _).alloc (Nat.le_refl _) _⟩
 ·rw [r_life] at R_life
  cases r_piece : inR p.piece 255
  ·rw [r_piece] at R_piece
   go_enter Tryz.func161, Tryz.ntmps161
   go_wp2_with fail
   refine (R_life.out _).mono ?_
   rintro e w' ⟨rfl, rfl⟩
   go_wp2_with fail
   refine (R_piece.out _).mono ?_
   rintro e w' ⟨rfl, rfl⟩
   go_wp2_with fail
   go_ret
   exact ⟨ret_bool (by unfold rangeB; simp [r_life, r_piece]), (Below.refl _ _).alloc (Nat.le_refl _) _⟩
  ·rw [r_piece] at R_piece
   cases r_src : inR p.src 4294967295
   ·rw [r_src] at R_src
    go_enter Tryz.func161, Tryz.ntmps161
    go_wp2_with fail
    refine (R_life.out _).mono ?_
    rintro e w' ⟨rfl, rfl⟩
    go_wp2_with fail
    refine (R_piece.out _).mono ?_
    rintro e w' ⟨rfl, rfl⟩
    go_wp2_with fail
    refine (R_src.out _).mono ?_
    rintro e w' ⟨rfl, rfl⟩
    go_wp2_with fail
    go_ret
    exact ⟨ret_bool (by unfold rangeB; simp [r_life, r_piece, r_src]), (Below.refl _ _).alloc (Nat.le_refl _) _⟩
   ·rw [r_src] at R_src
    cases r_dst : inR p.dst 4294967295
    ·rw [r_dst] at R_dst
     go_enter Tryz.func161, Tryz.ntmps161
     go_wp2_with fail
     refine (R_life.out _).mono ?_
     rintro e w' ⟨rfl, rfl⟩
     go_wp2_with fail
     refine (R_piece.out _).mono ?_
     rintro e w' ⟨rfl, rfl⟩
     go_wp2_with fail
     refine (R_src.out _).mono ?_
     rintro e w' ⟨rfl, rfl⟩
     go_wp2_with fail
     refine (R_dst.out _).mono ?_
     rintro e w' ⟨rfl, rfl⟩
     go_wp2_with fail
     go_ret
     exact ⟨ret_bool (by unfold rangeB; simp [r_life, r_piece, r_src, r_dst]), (Below.refl _ _).alloc (Nat.le_refl _) _⟩
    ·rw [r_dst] at R_dst
     cases k3 : (p.kind == 3)
     ·have n3 : ¬ p.kind = 3 := by simpa using k3
      cases r_fp : inR p.fp 65535
      ·rw [r_fp] at R_fp
       go_enter Tryz.func161, Tryz.ntmps161
       go_wp2_with fail
       refine (R_life.out _).mono ?_
       rintro e w' ⟨rfl, rfl⟩
       go_wp2_with fail
       refine (R_piece.out _).mono ?_
       rintro e w' ⟨rfl, rfl⟩
       go_wp2_with fail
       refine (R_src.out _).mono ?_
       rintro e w' ⟨rfl, rfl⟩
       go_wp2_with fail
       refine (R_dst.out _).mono ?_
       rintro e w' ⟨rfl, rfl⟩
       go_wp2_with fail
       refine (R_fp.out _).mono ?_
       rintro e w' ⟨rfl, rfl⟩
       go_wp2_with fail
       go_ret
       exact ⟨ret_bool (by unfold rangeB; simp [n3, r_life, r_piece, r_src, r_dst, r_fp]), (Below.refl _ _).alloc (Nat.le_refl _) _⟩
      ·rw [r_fp] at R_fp
       cases r_tp : inR p.tp 65535
       ·rw [r_tp] at R_tp
        go_enter Tryz.func161, Tryz.ntmps161
        go_wp2_with fail
        refine (R_life.out _).mono ?_
        rintro e w' ⟨rfl, rfl⟩
        go_wp2_with fail
        refine (R_piece.out _).mono ?_
        rintro e w' ⟨rfl, rfl⟩
        go_wp2_with fail
        refine (R_src.out _).mono ?_
        rintro e w' ⟨rfl, rfl⟩
        go_wp2_with fail
        refine (R_dst.out _).mono ?_
        rintro e w' ⟨rfl, rfl⟩
        go_wp2_with fail
        refine (R_fp.out _).mono ?_
        rintro e w' ⟨rfl, rfl⟩
        go_wp2_with fail
        refine (R_tp.out _).mono ?_
        rintro e w' ⟨rfl, rfl⟩
        go_wp2_with fail
        go_ret
        exact ⟨ret_bool (by unfold rangeB; simp [n3, r_life, r_piece, r_src, r_dst, r_fp, r_tp]), (Below.refl _ _).alloc (Nat.le_refl _) _⟩
       ·rw [r_tp] at R_tp
        cases k2 : (p.kind == 2)
        ·have n2 : ¬ p.kind = 2 := by simpa using k2
         go_enter Tryz.func161, Tryz.ntmps161
         go_wp2_with fail
         refine (R_life.out _).mono ?_
         rintro e w' ⟨rfl, rfl⟩
         go_wp2_with fail
         refine (R_piece.out _).mono ?_
         rintro e w' ⟨rfl, rfl⟩
         go_wp2_with fail
         refine (R_src.out _).mono ?_
         rintro e w' ⟨rfl, rfl⟩
         go_wp2_with fail
         refine (R_dst.out _).mono ?_
         rintro e w' ⟨rfl, rfl⟩
         go_wp2_with fail
         refine (R_fp.out _).mono ?_
         rintro e w' ⟨rfl, rfl⟩
         go_wp2_with fail
         refine (R_tp.out _).mono ?_
         rintro e w' ⟨rfl, rfl⟩
         go_wp2_with fail
         refine (R_flags.out _).mono ?_
         rintro e w' ⟨rfl, rfl⟩
         go_wp2_with fail
         go_ret
         exact ⟨ret_bool (by unfold rangeB; simp [n3, n2, r_life, r_piece, r_src, r_dst, r_fp, r_tp]), (Below.refl _ _).alloc (Nat.le_refl _) _⟩
        ·have n2 : Hid (p.kind = 2) := hid (by simpa using k2)
         go_enter Tryz.func161, Tryz.ntmps161
         go_wp2_with fail
         refine (R_life.out _).mono ?_
         rintro e w' ⟨rfl, rfl⟩
         go_wp2_with fail
         refine (R_piece.out _).mono ?_
         rintro e w' ⟨rfl, rfl⟩
         go_wp2_with fail
         refine (R_src.out _).mono ?_
         rintro e w' ⟨rfl, rfl⟩
         go_wp2_with fail
         refine (R_dst.out _).mono ?_
         rintro e w' ⟨rfl, rfl⟩
         go_wp2_with fail
         refine (R_fp.out _).mono ?_
         rintro e w' ⟨rfl, rfl⟩
         go_wp2_with fail
         refine (R_tp.out _).mono ?_
         rintro e w' ⟨rfl, rfl⟩
         go_wp2_with fail
         refine (R_label.out _).mono ?_
         rintro e w' ⟨rfl, rfl⟩
         go_wp2_with fail
         go_ret
         exact ⟨ret_bool (by unfold rangeB; simp [n2.out, r_life, r_piece, r_src, r_dst, r_fp, r_tp]), (Below.refl _ _).alloc (Nat.le_refl _) _⟩
     ·have n3 : Hid (p.kind = 3) := hid (by simpa using k3)
      go_enter Tryz.func161, Tryz.ntmps161
      go_wp2_with fail
      refine (R_life.out _).mono ?_
      rintro e w' ⟨rfl, rfl⟩
      go_wp2_with fail
      refine (R_piece.out _).mono ?_
      rintro e w' ⟨rfl, rfl⟩
      go_wp2_with fail
      refine (R_src.out _).mono ?_
      rintro e w' ⟨rfl, rfl⟩
      go_wp2_with fail
      refine (R_dst.out _).mono ?_
      rintro e w' ⟨rfl, rfl⟩
      go_wp2_with fail
      refine (R_code.out _).mono ?_
      rintro e w' ⟨rfl, rfl⟩
      go_wp2_with fail
      go_ret
      exact ⟨ret_bool (by unfold rangeB; simp [n3.out, r_life, r_piece, r_src, r_dst]), (Below.refl _ _).alloc (Nat.le_refl _) _⟩
set_option maxHeartbeats 4000000 in
theorem check_anyW (p : Pk) (AO : Option Addr) (cO : Nat) (AD : Option Addr) (cD : Nat) (w : World) (h1 : p.no ≤ 1000000) (h2 : p.nd ≤ 1000000) :
 Calls Tryz.prog 134 #[.agg #[.int .i64 p.kind, .int .i64 p.life, .int .i64 p.piece, .int .i64 p.src, .int .i64 p.dst, .int .i64 p.fp, .int .i64 p.tp, .int .i64 p.flags, .int .i64 p.label, .bool p.bare, .int .i64 p.code, .slice AO p.no cO, .slice AD p.nd cD]] w fun e w' => e = .returned (.int .i64 (buildE p)) ∧ Below w.heap.size w w' := by
 have IK := hid (fun w => iskind_any p.kind w)
 have IB := hid (fun w => inbounds_any p AO cO AD cD w)
 have LE := hid (fun w => length_any p AO cO AD cD w h1 h2)
 have CE := hid (Ce.made (w := w) (l := [.int .i64 p.kind, .int .i64 p.life, .int .i64 p.piece, .int .i64 p.src, .int .i64 p.dst, .int .i64 p.fp, .int .i64 p.tp, .int .i64 p.flags, .int .i64 p.label, .bool p.bare, .int .i64 p.code, .slice AO p.no cO, .slice AD p.nd cD]) (T := 39) (g := w.heap.size) rfl)
 have B0 := hid ((Below.refl w.heap.size w).alloc (Nat.le_refl _) (.cells #[.int .i64 p.kind, .int .i64 p.life, .int .i64 p.piece, .int .i64 p.src, .int .i64 p.dst, .int .i64 p.fp, .int .i64 p.tp, .int .i64 p.flags, .int .i64 p.label, .bool p.bare, .int .i64 p.code, .slice AO p.no cO, .slice AD p.nd cD] 39))
 simp only [List.toArray] at CE
 cases bk : isK p.kind
 ·rw [bk] at IK
  go_enter Tryz.func134, Tryz.ntmps134
  go_upto_region 1 with (fail)
  generalize (w.alloc (.cells #[.int .i64 p.kind, .int .i64 p.life, .int .i64 p.piece, .int .i64 p.src, .int .i64 p.dst, .int .i64 p.fp, .int .i64 p.tp, .int .i64 p.flags, .int .i64 p.label, .bool p.bare, .int .i64 p.code, .slice AO p.no cO, .slice AD p.nd cD] 39)) = w1 at *
  have y0 := CE.out.2.1 0 _ rfl
  have y1 := CE.out.2.1 1 _ rfl
  have y2 := CE.out.2.1 2 _ rfl
  have y3 := CE.out.2.1 3 _ rfl
  have y4 := CE.out.2.1 4 _ rfl
  have y5 := CE.out.2.1 5 _ rfl
  have y6 := CE.out.2.1 6 _ rfl
  have y7 := CE.out.2.1 7 _ rfl
  have y8 := CE.out.2.1 8 _ rfl
  have y9 := CE.out.2.1 9 _ rfl
  have y10 := CE.out.2.1 10 _ rfl
  have y11 := CE.out.2.1 11 _ rfl
  have y12 := CE.out.2.1 12 _ rfl
  go_wp2_with fail
  refine (IK.out _).mono ?_
  rintro e w' ⟨rfl, rfl⟩
  go_wp2_with fail
  go_ret
  exact ⟨ret_i64 (show (2 : Int) = buildE p from by unfold buildE; rw [if_pos bk]), B0.out⟩
 ·rw [bk] at IK
  cases br : rangeB p
  ·rw [br] at IB
   go_enter Tryz.func134, Tryz.ntmps134
   go_upto_region 1 with (fail)
   generalize (w.alloc (.cells #[.int .i64 p.kind, .int .i64 p.life, .int .i64 p.piece, .int .i64 p.src, .int .i64 p.dst, .int .i64 p.fp, .int .i64 p.tp, .int .i64 p.flags, .int .i64 p.label, .bool p.bare, .int .i64 p.code, .slice AO p.no cO, .slice AD p.nd cD] 39)) = w1 at *
   have y0 := CE.out.2.1 0 _ rfl
   have y1 := CE.out.2.1 1 _ rfl
   have y2 := CE.out.2.1 2 _ rfl
   have y3 := CE.out.2.1 3 _ rfl
   have y4 := CE.out.2.1 4 _ rfl
   have y5 := CE.out.2.1 5 _ rfl
   have y6 := CE.out.2.1 6 _ rfl
   have y7 := CE.out.2.1 7 _ rfl
   have y8 := CE.out.2.1 8 _ rfl
   have y9 := CE.out.2.1 9 _ rfl
   have y10 := CE.out.2.1 10 _ rfl
   have y11 := CE.out.2.1 11 _ rfl
   have y12 := CE.out.2.1 12 _ rfl
   go_wp2_with fail
   refine (IK.out _).mono ?_
   rintro e w' ⟨rfl, rfl⟩
   go_wp2_with fail
   refine (IB.out _).mono ?_
   rintro e w2 ⟨rfl, hb⟩
   have CE2 := hid (CE.out.below hb)
   have B2 := hid (B0.out.trans (hb.mono B0.out.size))
   clear y0 y1 y2 y3 y4 y5 y6 y7 y8 y9 y10 y11 y12 hb CE
   have y0 := CE2.out.2.1 0 _ rfl
   have y1 := CE2.out.2.1 1 _ rfl
   have y2 := CE2.out.2.1 2 _ rfl
   have y3 := CE2.out.2.1 3 _ rfl
   have y4 := CE2.out.2.1 4 _ rfl
   have y5 := CE2.out.2.1 5 _ rfl
   have y6 := CE2.out.2.1 6 _ rfl
   have y7 := CE2.out.2.1 7 _ rfl
   have y8 := CE2.out.2.1 8 _ rfl
   have y9 := CE2.out.2.1 9 _ rfl
   have y10 := CE2.out.2.1 10 _ rfl
   have y11 := CE2.out.2.1 11 _ rfl
   have y12 := CE2.out.2.1 12 _ rfl
   go_wp2_with fail
   go_ret
   exact ⟨ret_i64 (show (14 : Int) = buildE p from by unfold buildE; rw [if_neg (by rw [bk]; decide)]; rw [if_pos br]), B2.out⟩
  ·rw [br] at IB
   cases k1 : (p.kind == 1)
   ·have n5 : ¬ (p.kind = 1 ∧ 40 < p.no) := fun e => by have := e.1; simp at k1; exact k1 this
    replace n5 := hid n5
    cases k3 : (p.kind == 3)
    ·have n3 : ¬ p.kind = 3 := by simpa using k3
     have N3 := hid (show ¬ (p.kind = 3 ∧ p.nd < 24) from fun e => n3 e.1)
     cases l15 : decide ((1500 : Int) < (lenP p : Int))
     ·go_enter Tryz.func134, Tryz.ntmps134
      go_upto_region 1 with (fail)
      generalize (w.alloc (.cells #[.int .i64 p.kind, .int .i64 p.life, .int .i64 p.piece, .int .i64 p.src, .int .i64 p.dst, .int .i64 p.fp, .int .i64 p.tp, .int .i64 p.flags, .int .i64 p.label, .bool p.bare, .int .i64 p.code, .slice AO p.no cO, .slice AD p.nd cD] 39)) = w1 at *
      have y0 := CE.out.2.1 0 _ rfl
      have y1 := CE.out.2.1 1 _ rfl
      have y2 := CE.out.2.1 2 _ rfl
      have y3 := CE.out.2.1 3 _ rfl
      have y4 := CE.out.2.1 4 _ rfl
      have y5 := CE.out.2.1 5 _ rfl
      have y6 := CE.out.2.1 6 _ rfl
      have y7 := CE.out.2.1 7 _ rfl
      have y8 := CE.out.2.1 8 _ rfl
      have y9 := CE.out.2.1 9 _ rfl
      have y10 := CE.out.2.1 10 _ rfl
      have y11 := CE.out.2.1 11 _ rfl
      have y12 := CE.out.2.1 12 _ rfl
      go_wp2_with fail
      refine (IK.out _).mono ?_
      rintro e w' ⟨rfl, rfl⟩
      go_wp2_with fail
      refine (IB.out _).mono ?_
      rintro e w2 ⟨rfl, hb⟩
      have CE2 := hid (CE.out.below hb)
      have B2 := hid (B0.out.trans (hb.mono B0.out.size))
      clear y0 y1 y2 y3 y4 y5 y6 y7 y8 y9 y10 y11 y12 hb CE
      have y0 := CE2.out.2.1 0 _ rfl
      have y1 := CE2.out.2.1 1 _ rfl
      have y2 := CE2.out.2.1 2 _ rfl
      have y3 := CE2.out.2.1 3 _ rfl
      have y4 := CE2.out.2.1 4 _ rfl
      have y5 := CE2.out.2.1 5 _ rfl
      have y6 := CE2.out.2.1 6 _ rfl
      have y7 := CE2.out.2.1 7 _ rfl
      have y8 := CE2.out.2.1 8 _ rfl
      have y9 := CE2.out.2.1 9 _ rfl
      have y10 := CE2.out.2.1 10 _ rfl
      have y11 := CE2.out.2.1 11 _ rfl
      have y12 := CE2.out.2.1 12 _ rfl
      go_wp2_with fail
      refine (LE.out _).mono ?_
      rintro e w3 ⟨rfl, hb⟩
      have B3 := hid (B2.out.trans (hb.mono B2.out.size))
      clear y0 y1 y2 y3 y4 y5 y6 y7 y8 y9 y10 y11 y12 hb
      go_wp2_with fail
      go_ret
      exact ⟨ret_i64 (show (0 : Int) = buildE p from by unfold buildE; rw [if_neg (by rw [bk]; decide)]; rw [if_neg (by rw [br]; decide)]; rw [if_neg n5.out, if_neg (by rintro (e | e); (exact N3.out e); (simp at l15; omega))]), B3.out⟩
     ·go_enter Tryz.func134, Tryz.ntmps134
      go_upto_region 1 with (fail)
      generalize (w.alloc (.cells #[.int .i64 p.kind, .int .i64 p.life, .int .i64 p.piece, .int .i64 p.src, .int .i64 p.dst, .int .i64 p.fp, .int .i64 p.tp, .int .i64 p.flags, .int .i64 p.label, .bool p.bare, .int .i64 p.code, .slice AO p.no cO, .slice AD p.nd cD] 39)) = w1 at *
      have y0 := CE.out.2.1 0 _ rfl
      have y1 := CE.out.2.1 1 _ rfl
      have y2 := CE.out.2.1 2 _ rfl
      have y3 := CE.out.2.1 3 _ rfl
      have y4 := CE.out.2.1 4 _ rfl
      have y5 := CE.out.2.1 5 _ rfl
      have y6 := CE.out.2.1 6 _ rfl
      have y7 := CE.out.2.1 7 _ rfl
      have y8 := CE.out.2.1 8 _ rfl
      have y9 := CE.out.2.1 9 _ rfl
      have y10 := CE.out.2.1 10 _ rfl
      have y11 := CE.out.2.1 11 _ rfl
      have y12 := CE.out.2.1 12 _ rfl
      go_wp2_with fail
      refine (IK.out _).mono ?_
      rintro e w' ⟨rfl, rfl⟩
      go_wp2_with fail
      refine (IB.out _).mono ?_
      rintro e w2 ⟨rfl, hb⟩
      have CE2 := hid (CE.out.below hb)
      have B2 := hid (B0.out.trans (hb.mono B0.out.size))
      clear y0 y1 y2 y3 y4 y5 y6 y7 y8 y9 y10 y11 y12 hb CE
      have y0 := CE2.out.2.1 0 _ rfl
      have y1 := CE2.out.2.1 1 _ rfl
      have y2 := CE2.out.2.1 2 _ rfl
      have y3 := CE2.out.2.1 3 _ rfl
      have y4 := CE2.out.2.1 4 _ rfl
      have y5 := CE2.out.2.1 5 _ rfl
      have y6 := CE2.out.2.1 6 _ rfl
      have y7 := CE2.out.2.1 7 _ rfl
      have y8 := CE2.out.2.1 8 _ rfl
      have y9 := CE2.out.2.1 9 _ rfl
      have y10 := CE2.out.2.1 10 _ rfl
      have y11 := CE2.out.2.1 11 _ rfl
      have y12 := CE2.out.2.1 12 _ rfl
      go_wp2_with fail
      refine (LE.out _).mono ?_
      rintro e w3 ⟨rfl, hb⟩
      have B3 := hid (B2.out.trans (hb.mono B2.out.size))
      clear y0 y1 y2 y3 y4 y5 y6 y7 y8 y9 y10 y11 y12 hb
      go_wp2_with fail
      go_ret
      exact ⟨ret_i64 (show (3 : Int) = buildE p from by unfold buildE; rw [if_neg (by rw [bk]; decide)]; rw [if_neg (by rw [br]; decide)]; rw [if_neg n5.out, if_pos (.inr (by simp at l15; omega))]), B3.out⟩
    ·have n3 : Hid (p.kind = 3) := hid (by simpa using k3)
     cases d24 : decide ((p.nd : Int) < 24)
     ·have N3 := hid (show ¬ (p.kind = 3 ∧ p.nd < 24) from fun e => by have := e.2; simp at d24; omega)
      cases l15 : decide ((1500 : Int) < (lenP p : Int))
      ·go_enter Tryz.func134, Tryz.ntmps134
       go_upto_region 1 with (fail)
       generalize (w.alloc (.cells #[.int .i64 p.kind, .int .i64 p.life, .int .i64 p.piece, .int .i64 p.src, .int .i64 p.dst, .int .i64 p.fp, .int .i64 p.tp, .int .i64 p.flags, .int .i64 p.label, .bool p.bare, .int .i64 p.code, .slice AO p.no cO, .slice AD p.nd cD] 39)) = w1 at *
       have y0 := CE.out.2.1 0 _ rfl
       have y1 := CE.out.2.1 1 _ rfl
       have y2 := CE.out.2.1 2 _ rfl
       have y3 := CE.out.2.1 3 _ rfl
       have y4 := CE.out.2.1 4 _ rfl
       have y5 := CE.out.2.1 5 _ rfl
       have y6 := CE.out.2.1 6 _ rfl
       have y7 := CE.out.2.1 7 _ rfl
       have y8 := CE.out.2.1 8 _ rfl
       have y9 := CE.out.2.1 9 _ rfl
       have y10 := CE.out.2.1 10 _ rfl
       have y11 := CE.out.2.1 11 _ rfl
       have y12 := CE.out.2.1 12 _ rfl
       go_wp2_with fail
       refine (IK.out _).mono ?_
       rintro e w' ⟨rfl, rfl⟩
       go_wp2_with fail
       refine (IB.out _).mono ?_
       rintro e w2 ⟨rfl, hb⟩
       have CE2 := hid (CE.out.below hb)
       have B2 := hid (B0.out.trans (hb.mono B0.out.size))
       clear y0 y1 y2 y3 y4 y5 y6 y7 y8 y9 y10 y11 y12 hb CE
       have y0 := CE2.out.2.1 0 _ rfl
       have y1 := CE2.out.2.1 1 _ rfl
       have y2 := CE2.out.2.1 2 _ rfl
       have y3 := CE2.out.2.1 3 _ rfl
       have y4 := CE2.out.2.1 4 _ rfl
       have y5 := CE2.out.2.1 5 _ rfl
       have y6 := CE2.out.2.1 6 _ rfl
       have y7 := CE2.out.2.1 7 _ rfl
       have y8 := CE2.out.2.1 8 _ rfl
       have y9 := CE2.out.2.1 9 _ rfl
       have y10 := CE2.out.2.1 10 _ rfl
       have y11 := CE2.out.2.1 11 _ rfl
       have y12 := CE2.out.2.1 12 _ rfl
       go_wp2_with fail
       refine (LE.out _).mono ?_
       rintro e w3 ⟨rfl, hb⟩
       have B3 := hid (B2.out.trans (hb.mono B2.out.size))
       clear y0 y1 y2 y3 y4 y5 y6 y7 y8 y9 y10 y11 y12 hb
       go_wp2_with fail
       go_ret
       exact ⟨ret_i64 (show (0 : Int) = buildE p from by unfold buildE; rw [if_neg (by rw [bk]; decide)]; rw [if_neg (by rw [br]; decide)]; rw [if_neg n5.out, if_neg (by rintro (e | e); (exact N3.out e); (simp at l15; omega))]), B3.out⟩
      ·go_enter Tryz.func134, Tryz.ntmps134
       go_upto_region 1 with (fail)
       generalize (w.alloc (.cells #[.int .i64 p.kind, .int .i64 p.life, .int .i64 p.piece, .int .i64 p.src, .int .i64 p.dst, .int .i64 p.fp, .int .i64 p.tp, .int .i64 p.flags, .int .i64 p.label, .bool p.bare, .int .i64 p.code, .slice AO p.no cO, .slice AD p.nd cD] 39)) = w1 at *
       have y0 := CE.out.2.1 0 _ rfl
       have y1 := CE.out.2.1 1 _ rfl
       have y2 := CE.out.2.1 2 _ rfl
       have y3 := CE.out.2.1 3 _ rfl
       have y4 := CE.out.2.1 4 _ rfl
       have y5 := CE.out.2.1 5 _ rfl
       have y6 := CE.out.2.1 6 _ rfl
       have y7 := CE.out.2.1 7 _ rfl
       have y8 := CE.out.2.1 8 _ rfl
       have y9 := CE.out.2.1 9 _ rfl
       have y10 := CE.out.2.1 10 _ rfl
       have y11 := CE.out.2.1 11 _ rfl
       have y12 := CE.out.2.1 12 _ rfl
       go_wp2_with fail
       refine (IK.out _).mono ?_
       rintro e w' ⟨rfl, rfl⟩
       go_wp2_with fail
       refine (IB.out _).mono ?_
       rintro e w2 ⟨rfl, hb⟩
       have CE2 := hid (CE.out.below hb)
       have B2 := hid (B0.out.trans (hb.mono B0.out.size))
       clear y0 y1 y2 y3 y4 y5 y6 y7 y8 y9 y10 y11 y12 hb CE
       have y0 := CE2.out.2.1 0 _ rfl
       have y1 := CE2.out.2.1 1 _ rfl
       have y2 := CE2.out.2.1 2 _ rfl
       have y3 := CE2.out.2.1 3 _ rfl
       have y4 := CE2.out.2.1 4 _ rfl
       have y5 := CE2.out.2.1 5 _ rfl
       have y6 := CE2.out.2.1 6 _ rfl
       have y7 := CE2.out.2.1 7 _ rfl
       have y8 := CE2.out.2.1 8 _ rfl
       have y9 := CE2.out.2.1 9 _ rfl
       have y10 := CE2.out.2.1 10 _ rfl
       have y11 := CE2.out.2.1 11 _ rfl
       have y12 := CE2.out.2.1 12 _ rfl
       go_wp2_with fail
       refine (LE.out _).mono ?_
       rintro e w3 ⟨rfl, hb⟩
       have B3 := hid (B2.out.trans (hb.mono B2.out.size))
       clear y0 y1 y2 y3 y4 y5 y6 y7 y8 y9 y10 y11 y12 hb
       go_wp2_with fail
       go_ret
       exact ⟨ret_i64 (show (3 : Int) = buildE p from by unfold buildE; rw [if_neg (by rw [bk]; decide)]; rw [if_neg (by rw [br]; decide)]; rw [if_neg n5.out, if_pos (.inr (by simp at l15; omega))]), B3.out⟩
     ·go_enter Tryz.func134, Tryz.ntmps134
      go_upto_region 1 with (fail)
      generalize (w.alloc (.cells #[.int .i64 p.kind, .int .i64 p.life, .int .i64 p.piece, .int .i64 p.src, .int .i64 p.dst, .int .i64 p.fp, .int .i64 p.tp, .int .i64 p.flags, .int .i64 p.label, .bool p.bare, .int .i64 p.code, .slice AO p.no cO, .slice AD p.nd cD] 39)) = w1 at *
      have y0 := CE.out.2.1 0 _ rfl
      have y1 := CE.out.2.1 1 _ rfl
      have y2 := CE.out.2.1 2 _ rfl
      have y3 := CE.out.2.1 3 _ rfl
      have y4 := CE.out.2.1 4 _ rfl
      have y5 := CE.out.2.1 5 _ rfl
      have y6 := CE.out.2.1 6 _ rfl
      have y7 := CE.out.2.1 7 _ rfl
      have y8 := CE.out.2.1 8 _ rfl
      have y9 := CE.out.2.1 9 _ rfl
      have y10 := CE.out.2.1 10 _ rfl
      have y11 := CE.out.2.1 11 _ rfl
      have y12 := CE.out.2.1 12 _ rfl
      go_wp2_with fail
      refine (IK.out _).mono ?_
      rintro e w' ⟨rfl, rfl⟩
      go_wp2_with fail
      refine (IB.out _).mono ?_
      rintro e w2 ⟨rfl, hb⟩
      have CE2 := hid (CE.out.below hb)
      have B2 := hid (B0.out.trans (hb.mono B0.out.size))
      clear y0 y1 y2 y3 y4 y5 y6 y7 y8 y9 y10 y11 y12 hb CE
      have y0 := CE2.out.2.1 0 _ rfl
      have y1 := CE2.out.2.1 1 _ rfl
      have y2 := CE2.out.2.1 2 _ rfl
      have y3 := CE2.out.2.1 3 _ rfl
      have y4 := CE2.out.2.1 4 _ rfl
      have y5 := CE2.out.2.1 5 _ rfl
      have y6 := CE2.out.2.1 6 _ rfl
      have y7 := CE2.out.2.1 7 _ rfl
      have y8 := CE2.out.2.1 8 _ rfl
      have y9 := CE2.out.2.1 9 _ rfl
      have y10 := CE2.out.2.1 10 _ rfl
      have y11 := CE2.out.2.1 11 _ rfl
      have y12 := CE2.out.2.1 12 _ rfl
      go_wp2_with fail
      go_ret
      exact ⟨ret_i64 (show (3 : Int) = buildE p from by unfold buildE; rw [if_neg (by rw [bk]; decide)]; rw [if_neg (by rw [br]; decide)]; rw [if_neg n5.out, if_pos (.inl ⟨n3.out, by simp at d24; omega⟩)]), B2.out⟩
   ·have n1 : Hid (p.kind = 1) := hid (by simpa using k1)
    cases d40 : decide ((40 : Int) < (p.no : Int))
    ·have n5 : ¬ (p.kind = 1 ∧ 40 < p.no) := fun e => by have := e.2; simp at d40; omega
     replace n5 := hid n5
     cases k3 : (p.kind == 3)
     ·have n3 : ¬ p.kind = 3 := by simpa using k3
      have N3 := hid (show ¬ (p.kind = 3 ∧ p.nd < 24) from fun e => n3 e.1)
      cases l15 : decide ((1500 : Int) < (lenP p : Int))
      ·go_enter Tryz.func134, Tryz.ntmps134
       go_upto_region 1 with (fail)
       generalize (w.alloc (.cells #[.int .i64 p.kind, .int .i64 p.life, .int .i64 p.piece, .int .i64 p.src, .int .i64 p.dst, .int .i64 p.fp, .int .i64 p.tp, .int .i64 p.flags, .int .i64 p.label, .bool p.bare, .int .i64 p.code, .slice AO p.no cO, .slice AD p.nd cD] 39)) = w1 at *
       have y0 := CE.out.2.1 0 _ rfl
       have y1 := CE.out.2.1 1 _ rfl
       have y2 := CE.out.2.1 2 _ rfl
       have y3 := CE.out.2.1 3 _ rfl
       have y4 := CE.out.2.1 4 _ rfl
       have y5 := CE.out.2.1 5 _ rfl
       have y6 := CE.out.2.1 6 _ rfl
       have y7 := CE.out.2.1 7 _ rfl
       have y8 := CE.out.2.1 8 _ rfl
       have y9 := CE.out.2.1 9 _ rfl
       have y10 := CE.out.2.1 10 _ rfl
       have y11 := CE.out.2.1 11 _ rfl
       have y12 := CE.out.2.1 12 _ rfl
       go_wp2_with fail
       refine (IK.out _).mono ?_
       rintro e w' ⟨rfl, rfl⟩
       go_wp2_with fail
       refine (IB.out _).mono ?_
       rintro e w2 ⟨rfl, hb⟩
       have CE2 := hid (CE.out.below hb)
       have B2 := hid (B0.out.trans (hb.mono B0.out.size))
       clear y0 y1 y2 y3 y4 y5 y6 y7 y8 y9 y10 y11 y12 hb CE
       have y0 := CE2.out.2.1 0 _ rfl
       have y1 := CE2.out.2.1 1 _ rfl
       have y2 := CE2.out.2.1 2 _ rfl
       have y3 := CE2.out.2.1 3 _ rfl
       have y4 := CE2.out.2.1 4 _ rfl
       have y5 := CE2.out.2.1 5 _ rfl
       have y6 := CE2.out.2.1 6 _ rfl
       have y7 := CE2.out.2.1 7 _ rfl
       have y8 := CE2.out.2.1 8 _ rfl
       have y9 := CE2.out.2.1 9 _ rfl
       have y10 := CE2.out.2.1 10 _ rfl
       have y11 := CE2.out.2.1 11 _ rfl
       have y12 := CE2.out.2.1 12 _ rfl
       go_wp2_with fail
       refine (LE.out _).mono ?_
       rintro e w3 ⟨rfl, hb⟩
       have B3 := hid (B2.out.trans (hb.mono B2.out.size))
       clear y0 y1 y2 y3 y4 y5 y6 y7 y8 y9 y10 y11 y12 hb
       go_wp2_with fail
       go_ret
       exact ⟨ret_i64 (show (0 : Int) = buildE p from by unfold buildE; rw [if_neg (by rw [bk]; decide)]; rw [if_neg (by rw [br]; decide)]; rw [if_neg n5.out, if_neg (by rintro (e | e); (exact N3.out e); (simp at l15; omega))]), B3.out⟩
      ·go_enter Tryz.func134, Tryz.ntmps134
       go_upto_region 1 with (fail)
       generalize (w.alloc (.cells #[.int .i64 p.kind, .int .i64 p.life, .int .i64 p.piece, .int .i64 p.src, .int .i64 p.dst, .int .i64 p.fp, .int .i64 p.tp, .int .i64 p.flags, .int .i64 p.label, .bool p.bare, .int .i64 p.code, .slice AO p.no cO, .slice AD p.nd cD] 39)) = w1 at *
       have y0 := CE.out.2.1 0 _ rfl
       have y1 := CE.out.2.1 1 _ rfl
       have y2 := CE.out.2.1 2 _ rfl
       have y3 := CE.out.2.1 3 _ rfl
       have y4 := CE.out.2.1 4 _ rfl
       have y5 := CE.out.2.1 5 _ rfl
       have y6 := CE.out.2.1 6 _ rfl
       have y7 := CE.out.2.1 7 _ rfl
       have y8 := CE.out.2.1 8 _ rfl
       have y9 := CE.out.2.1 9 _ rfl
       have y10 := CE.out.2.1 10 _ rfl
       have y11 := CE.out.2.1 11 _ rfl
       have y12 := CE.out.2.1 12 _ rfl
       go_wp2_with fail
       refine (IK.out _).mono ?_
       rintro e w' ⟨rfl, rfl⟩
       go_wp2_with fail
       refine (IB.out _).mono ?_
       rintro e w2 ⟨rfl, hb⟩
       have CE2 := hid (CE.out.below hb)
       have B2 := hid (B0.out.trans (hb.mono B0.out.size))
       clear y0 y1 y2 y3 y4 y5 y6 y7 y8 y9 y10 y11 y12 hb CE
       have y0 := CE2.out.2.1 0 _ rfl
       have y1 := CE2.out.2.1 1 _ rfl
       have y2 := CE2.out.2.1 2 _ rfl
       have y3 := CE2.out.2.1 3 _ rfl
       have y4 := CE2.out.2.1 4 _ rfl
       have y5 := CE2.out.2.1 5 _ rfl
       have y6 := CE2.out.2.1 6 _ rfl
       have y7 := CE2.out.2.1 7 _ rfl
       have y8 := CE2.out.2.1 8 _ rfl
       have y9 := CE2.out.2.1 9 _ rfl
       have y10 := CE2.out.2.1 10 _ rfl
       have y11 := CE2.out.2.1 11 _ rfl
       have y12 := CE2.out.2.1 12 _ rfl
       go_wp2_with fail
       refine (LE.out _).mono ?_
       rintro e w3 ⟨rfl, hb⟩
       have B3 := hid (B2.out.trans (hb.mono B2.out.size))
       clear y0 y1 y2 y3 y4 y5 y6 y7 y8 y9 y10 y11 y12 hb
       go_wp2_with fail
       go_ret
       exact ⟨ret_i64 (show (3 : Int) = buildE p from by unfold buildE; rw [if_neg (by rw [bk]; decide)]; rw [if_neg (by rw [br]; decide)]; rw [if_neg n5.out, if_pos (.inr (by simp at l15; omega))]), B3.out⟩
     ·have n3 : Hid (p.kind = 3) := hid (by simpa using k3)
      cases d24 : decide ((p.nd : Int) < 24)
      ·have N3 := hid (show ¬ (p.kind = 3 ∧ p.nd < 24) from fun e => by have := e.2; simp at d24; omega)
       cases l15 : decide ((1500 : Int) < (lenP p : Int))
       ·go_enter Tryz.func134, Tryz.ntmps134
        go_upto_region 1 with (fail)
        generalize (w.alloc (.cells #[.int .i64 p.kind, .int .i64 p.life, .int .i64 p.piece, .int .i64 p.src, .int .i64 p.dst, .int .i64 p.fp, .int .i64 p.tp, .int .i64 p.flags, .int .i64 p.label, .bool p.bare, .int .i64 p.code, .slice AO p.no cO, .slice AD p.nd cD] 39)) = w1 at *
        have y0 := CE.out.2.1 0 _ rfl
        have y1 := CE.out.2.1 1 _ rfl
        have y2 := CE.out.2.1 2 _ rfl
        have y3 := CE.out.2.1 3 _ rfl
        have y4 := CE.out.2.1 4 _ rfl
        have y5 := CE.out.2.1 5 _ rfl
        have y6 := CE.out.2.1 6 _ rfl
        have y7 := CE.out.2.1 7 _ rfl
        have y8 := CE.out.2.1 8 _ rfl
        have y9 := CE.out.2.1 9 _ rfl
        have y10 := CE.out.2.1 10 _ rfl
        have y11 := CE.out.2.1 11 _ rfl
        have y12 := CE.out.2.1 12 _ rfl
        go_wp2_with fail
        refine (IK.out _).mono ?_
        rintro e w' ⟨rfl, rfl⟩
        go_wp2_with fail
        refine (IB.out _).mono ?_
        rintro e w2 ⟨rfl, hb⟩
        have CE2 := hid (CE.out.below hb)
        have B2 := hid (B0.out.trans (hb.mono B0.out.size))
        clear y0 y1 y2 y3 y4 y5 y6 y7 y8 y9 y10 y11 y12 hb CE
        have y0 := CE2.out.2.1 0 _ rfl
        have y1 := CE2.out.2.1 1 _ rfl
        have y2 := CE2.out.2.1 2 _ rfl
        have y3 := CE2.out.2.1 3 _ rfl
        have y4 := CE2.out.2.1 4 _ rfl
        have y5 := CE2.out.2.1 5 _ rfl
        have y6 := CE2.out.2.1 6 _ rfl
        have y7 := CE2.out.2.1 7 _ rfl
        have y8 := CE2.out.2.1 8 _ rfl
        have y9 := CE2.out.2.1 9 _ rfl
        have y10 := CE2.out.2.1 10 _ rfl
        have y11 := CE2.out.2.1 11 _ rfl
        have y12 := CE2.out.2.1 12 _ rfl
        go_wp2_with fail
        refine (LE.out _).mono ?_
        rintro e w3 ⟨rfl, hb⟩
        have B3 := hid (B2.out.trans (hb.mono B2.out.size))
        clear y0 y1 y2 y3 y4 y5 y6 y7 y8 y9 y10 y11 y12 hb
        go_wp2_with fail
        go_ret
        exact ⟨ret_i64 (show (0 : Int) = buildE p from by unfold buildE; rw [if_neg (by rw [bk]; decide)]; rw [if_neg (by rw [br]; decide)]; rw [if_neg n5.out, if_neg (by rintro (e | e); (exact N3.out e); (simp at l15; omega))]), B3.out⟩
       ·go_enter Tryz.func134, Tryz.ntmps134
        go_upto_region 1 with (fail)
        generalize (w.alloc (.cells #[.int .i64 p.kind, .int .i64 p.life, .int .i64 p.piece, .int .i64 p.src, .int .i64 p.dst, .int .i64 p.fp, .int .i64 p.tp, .int .i64 p.flags, .int .i64 p.label, .bool p.bare, .int .i64 p.code, .slice AO p.no cO, .slice AD p.nd cD] 39)) = w1 at *
        have y0 := CE.out.2.1 0 _ rfl
        have y1 := CE.out.2.1 1 _ rfl
        have y2 := CE.out.2.1 2 _ rfl
        have y3 := CE.out.2.1 3 _ rfl
        have y4 := CE.out.2.1 4 _ rfl
        have y5 := CE.out.2.1 5 _ rfl
        have y6 := CE.out.2.1 6 _ rfl
        have y7 := CE.out.2.1 7 _ rfl
        have y8 := CE.out.2.1 8 _ rfl
        have y9 := CE.out.2.1 9 _ rfl
        have y10 := CE.out.2.1 10 _ rfl
        have y11 := CE.out.2.1 11 _ rfl
        have y12 := CE.out.2.1 12 _ rfl
        go_wp2_with fail
        refine (IK.out _).mono ?_
        rintro e w' ⟨rfl, rfl⟩
        go_wp2_with fail
        refine (IB.out _).mono ?_
        rintro e w2 ⟨rfl, hb⟩
        have CE2 := hid (CE.out.below hb)
        have B2 := hid (B0.out.trans (hb.mono B0.out.size))
        clear y0 y1 y2 y3 y4 y5 y6 y7 y8 y9 y10 y11 y12 hb CE
        have y0 := CE2.out.2.1 0 _ rfl
        have y1 := CE2.out.2.1 1 _ rfl
        have y2 := CE2.out.2.1 2 _ rfl
        have y3 := CE2.out.2.1 3 _ rfl
        have y4 := CE2.out.2.1 4 _ rfl
        have y5 := CE2.out.2.1 5 _ rfl
        have y6 := CE2.out.2.1 6 _ rfl
        have y7 := CE2.out.2.1 7 _ rfl
        have y8 := CE2.out.2.1 8 _ rfl
        have y9 := CE2.out.2.1 9 _ rfl
        have y10 := CE2.out.2.1 10 _ rfl
        have y11 := CE2.out.2.1 11 _ rfl
        have y12 := CE2.out.2.1 12 _ rfl
        go_wp2_with fail
        refine (LE.out _).mono ?_
        rintro e w3 ⟨rfl, hb⟩
        have B3 := hid (B2.out.trans (hb.mono B2.out.size))
        clear y0 y1 y2 y3 y4 y5 y6 y7 y8 y9 y10 y11 y12 hb
        go_wp2_with fail
        go_ret
        exact ⟨ret_i64 (show (3 : Int) = buildE p from by unfold buildE; rw [if_neg (by rw [bk]; decide)]; rw [if_neg (by rw [br]; decide)]; rw [if_neg n5.out, if_pos (.inr (by simp at l15; omega))]), B3.out⟩
      ·go_enter Tryz.func134, Tryz.ntmps134
       go_upto_region 1 with (fail)
       generalize (w.alloc (.cells #[.int .i64 p.kind, .int .i64 p.life, .int .i64 p.piece, .int .i64 p.src, .int .i64 p.dst, .int .i64 p.fp, .int .i64 p.tp, .int .i64 p.flags, .int .i64 p.label, .bool p.bare, .int .i64 p.code, .slice AO p.no cO, .slice AD p.nd cD] 39)) = w1 at *
       have y0 := CE.out.2.1 0 _ rfl
       have y1 := CE.out.2.1 1 _ rfl
       have y2 := CE.out.2.1 2 _ rfl
       have y3 := CE.out.2.1 3 _ rfl
       have y4 := CE.out.2.1 4 _ rfl
       have y5 := CE.out.2.1 5 _ rfl
       have y6 := CE.out.2.1 6 _ rfl
       have y7 := CE.out.2.1 7 _ rfl
       have y8 := CE.out.2.1 8 _ rfl
       have y9 := CE.out.2.1 9 _ rfl
       have y10 := CE.out.2.1 10 _ rfl
       have y11 := CE.out.2.1 11 _ rfl
       have y12 := CE.out.2.1 12 _ rfl
       go_wp2_with fail
       refine (IK.out _).mono ?_
       rintro e w' ⟨rfl, rfl⟩
       go_wp2_with fail
       refine (IB.out _).mono ?_
       rintro e w2 ⟨rfl, hb⟩
       have CE2 := hid (CE.out.below hb)
       have B2 := hid (B0.out.trans (hb.mono B0.out.size))
       clear y0 y1 y2 y3 y4 y5 y6 y7 y8 y9 y10 y11 y12 hb CE
       have y0 := CE2.out.2.1 0 _ rfl
       have y1 := CE2.out.2.1 1 _ rfl
       have y2 := CE2.out.2.1 2 _ rfl
       have y3 := CE2.out.2.1 3 _ rfl
       have y4 := CE2.out.2.1 4 _ rfl
       have y5 := CE2.out.2.1 5 _ rfl
       have y6 := CE2.out.2.1 6 _ rfl
       have y7 := CE2.out.2.1 7 _ rfl
       have y8 := CE2.out.2.1 8 _ rfl
       have y9 := CE2.out.2.1 9 _ rfl
       have y10 := CE2.out.2.1 10 _ rfl
       have y11 := CE2.out.2.1 11 _ rfl
       have y12 := CE2.out.2.1 12 _ rfl
       go_wp2_with fail
       go_ret
       exact ⟨ret_i64 (show (3 : Int) = buildE p from by unfold buildE; rw [if_neg (by rw [bk]; decide)]; rw [if_neg (by rw [br]; decide)]; rw [if_neg n5.out, if_pos (.inl ⟨n3.out, by simp at d24; omega⟩)]), B2.out⟩
    ·go_enter Tryz.func134, Tryz.ntmps134
     go_upto_region 1 with (fail)
     generalize (w.alloc (.cells #[.int .i64 p.kind, .int .i64 p.life, .int .i64 p.piece, .int .i64 p.src, .int .i64 p.dst, .int .i64 p.fp, .int .i64 p.tp, .int .i64 p.flags, .int .i64 p.label, .bool p.bare, .int .i64 p.code, .slice AO p.no cO, .slice AD p.nd cD] 39)) = w1 at *
     have y0 := CE.out.2.1 0 _ rfl
     have y1 := CE.out.2.1 1 _ rfl
     have y2 := CE.out.2.1 2 _ rfl
     have y3 := CE.out.2.1 3 _ rfl
     have y4 := CE.out.2.1 4 _ rfl
     have y5 := CE.out.2.1 5 _ rfl
     have y6 := CE.out.2.1 6 _ rfl
     have y7 := CE.out.2.1 7 _ rfl
     have y8 := CE.out.2.1 8 _ rfl
     have y9 := CE.out.2.1 9 _ rfl
     have y10 := CE.out.2.1 10 _ rfl
     have y11 := CE.out.2.1 11 _ rfl
     have y12 := CE.out.2.1 12 _ rfl
     go_wp2_with fail
     refine (IK.out _).mono ?_
     rintro e w' ⟨rfl, rfl⟩
     go_wp2_with fail
     refine (IB.out _).mono ?_
     rintro e w2 ⟨rfl, hb⟩
     have CE2 := hid (CE.out.below hb)
     have B2 := hid (B0.out.trans (hb.mono B0.out.size))
     clear y0 y1 y2 y3 y4 y5 y6 y7 y8 y9 y10 y11 y12 hb CE
     have y0 := CE2.out.2.1 0 _ rfl
     have y1 := CE2.out.2.1 1 _ rfl
     have y2 := CE2.out.2.1 2 _ rfl
     have y3 := CE2.out.2.1 3 _ rfl
     have y4 := CE2.out.2.1 4 _ rfl
     have y5 := CE2.out.2.1 5 _ rfl
     have y6 := CE2.out.2.1 6 _ rfl
     have y7 := CE2.out.2.1 7 _ rfl
     have y8 := CE2.out.2.1 8 _ rfl
     have y9 := CE2.out.2.1 9 _ rfl
     have y10 := CE2.out.2.1 10 _ rfl
     have y11 := CE2.out.2.1 11 _ rfl
     have y12 := CE2.out.2.1 12 _ rfl
     go_wp2_with fail
     go_ret
     exact ⟨ret_i64 (show (5 : Int) = buildE p from by unfold buildE; rw [if_neg (by rw [bk]; decide)]; rw [if_neg (by rw [br]; decide)]; rw [if_pos ⟨n1.out, by simp at d40; omega⟩]), B2.out⟩
end Go.Proofs.YteapnfdpkjbfhaaGreat
namespace Go.Proofs.YteapnfdpkjbfhaaGreat
set_option linter.unusedVariables false
set_option linter.unusedSimpArgs false
open Go.RowKit Go.ChangeShapes Go.WideShapes Go.ChangeAt
theorem range_facts {p : Pk} (h : rangeB p = true) : (0 ≤ p.life ∧ p.life ≤ 255) ∧ (0 ≤ p.piece ∧ p.piece ≤ 255) ∧ (p.kind = 3 → 0 ≤ p.code ∧ p.code ≤ 255) ∧ (p.kind ≠ 3 → p.kind ≠ 2 → 0 ≤ p.flags ∧ p.flags ≤ 15) := by
 unfold rangeB inR at h
 simp at h
 refine ⟨by omega, by omega, fun k => ?_, fun k k2 => ?_⟩
 ·rw [if_pos k] at h; omega
 ·rw [if_neg k, if_neg k2] at h; omega
theorem ow_base {w : World} {B n size : Nat} {e : TypeId} {v : Value} {f : Nat → Value} (h : Ow w B e size v n f) (hn : 0 < n * size) : B ≤ w.heap.size := by
 rcases h.2 with ⟨_, h0⟩ | ⟨g, cap, cur, _, hB, hh, _⟩
 ·subst h0; simp at hn
 ·rcases Nat.lt_or_ge g w.heap.size with h1 | h1
  ·omega
  ·rw [Array.getElem?_eq_none h1] at hh; cases hh
theorem rowc {w : World} {x : Int} : OB (w.alloc (.cells #[.int .u8 x, .int .u8 0, .int .u8 0, .int .u8 0] 5)) w.heap.size (.slice (some ⟨w.heap.size, 0, none⟩) 4 4) 4 (fun j => if j = 0 then x else 0) := by
 refine OB.of_cells (Nat.le_refl _) (by simp only [maxLen]; omega) ?_
 rw [heap_alloc_new]
 rfl
/-- What a body tells: its row. -/
def Bodied (w : World) (p : Pk) (e : Ending) (w' : World) : Prop := ∃ A' c', e = .returned (.slice A' (lenP p - 16) c') ∧ OB w' w.heap.size (.slice A' (lenP p - 16) c') (lenP p - 16) (bodyF p) ∧ lenP p - 16 ≤ c' ∧ Below w.heap.size w w'
set_option maxHeartbeats 8000000 in
theorem body_any (p : Pk) (AO : Option Addr) (cO : Nat) (AD : Option Addr) (cD : Nat) (w : World) (HO : By w AO p.no p.go) (HD : By w AD p.nd p.gd) (hE : buildE p = 0) :
 Calls Tryz.prog 136 #[.agg #[.int .i64 p.kind, .int .i64 p.life, .int .i64 p.piece, .int .i64 p.src, .int .i64 p.dst, .int .i64 p.fp, .int .i64 p.tp, .int .i64 p.flags, .int .i64 p.label, .bool p.bare, .int .i64 p.code, .slice AO p.no cO, .slice AD p.nd cD]] w (Bodied w p) := by
 obtain ⟨e1, e2, e3, e4, e5, e6⟩ := buildE_0 hE
 obtain ⟨_, _, rc, rf⟩ := range_facts e2
 have hno := e3
 have hl : p.nd ≤ 1500 := by unfold lenP at e5; split at e5; omega; split at e5 <;> omega
 have HOW := hid (fun (W : World) (hw : Below w.heap.size w W) => Sl.below HO hw (Nat.le_refl _))
 have HDW := hid (fun (W : World) (hw : Below w.heap.size w W) => Sl.below HD hw (Nat.le_refl _))
 have CE := hid (Ce.made (w := w) (l := [.int .i64 p.kind, .int .i64 p.life, .int .i64 p.piece, .int .i64 p.src, .int .i64 p.dst, .int .i64 p.fp, .int .i64 p.tp, .int .i64 p.flags, .int .i64 p.label, .bool p.bare, .int .i64 p.code, .slice AO p.no cO, .slice AD p.nd cD]) (T := 39) (g := w.heap.size) rfl)
 have B0 := hid ((Below.refl w.heap.size w).alloc (Nat.le_refl _) (.cells #[.int .i64 p.kind, .int .i64 p.life, .int .i64 p.piece, .int .i64 p.src, .int .i64 p.dst, .int .i64 p.fp, .int .i64 p.tp, .int .i64 p.flags, .int .i64 p.label, .bool p.bare, .int .i64 p.code, .slice AO p.no cO, .slice AD p.nd cD] 39))
 simp only [List.toArray] at CE
 have hE_ := hE
 clear HO HD hE e1 e2 e4 e5 e6
 cases k3 : (p.kind == 3)
 ·have k3' : ¬ p.kind = 3 := by simpa using k3
  cases k2 : (p.kind == 2)
  ·have k2' : ¬ p.kind = 2 := by simpa using k2
   have k1' : p.kind = 1 := by have := kind_of hE_; omega
   have rf' := rf k3' k2'
   obtain ⟨rf0, rf1⟩ := rf'
   have no40 := hno k1'
   have HL : Hid (lenP p - 16 = 8 + p.no + p.nd) := hid (by unfold lenP; rw [if_neg k3', if_neg k2']; omega)
   have HF : Hid (bodyF p = fun j => if j < 8 + p.no then (if j < 8 then set1 (set1 (putF (putF (fun _ => 0) 0 2 p.fp) 2 2 p.tp) 4 p.flags) 5 (p.no : Int) j else p.go (j - 8)) else p.gd (j - (8 + p.no))) := hid (by funext j; unfold bodyF; rw [if_neg k3', if_neg k2']; unfold set1 putF; dsimp only; (repeat' split); all_goals (first | rfl | (exfalso; omega) | (congr 1; omega)))
   clear k1' k2' k3' rc rf hno hE_
   go_enter Tryz.func136, Tryz.ntmps136
   go_upto_region 1 with (fail)
   generalize (w.alloc (.cells #[.int .i64 p.kind, .int .i64 p.life, .int .i64 p.piece, .int .i64 p.src, .int .i64 p.dst, .int .i64 p.fp, .int .i64 p.tp, .int .i64 p.flags, .int .i64 p.label, .bool p.bare, .int .i64 p.code, .slice AO p.no cO, .slice AD p.nd cD] 39)) = w1 at *
   have lP : w.heap.size < w1.heap.size := CE.out.1
   have y0 := CE.out.2.1 0 _ rfl
   have CP0 : ∀ W, (Instr.slice 37 (.slice (some ⟨w1.heap.size, 0, none⟩) 8 8) none (some (.int .i64 2)) (some (.int .i64 2))).run Tryz.prog W = .ok (.slice (some ⟨w1.heap.size, 0, none⟩) 2 2) W := fun W => by rw [run_slice_hm W 37 _ 8 8 elem_b .i64 .i64 _ _ (by omega) (by omega) (by omega), size_b W]; rfl
   have CP2 := fun W => cut_put (G := w1.heap.size) (n := 8) (c := 8) 2 2 (by omega) (Nat.le_refl _) (by omega) 2 4 4 rfl rfl rfl W
   have CP4 := fun W => cut_put (G := w1.heap.size) (n := 8) (c := 8) 4 2 (by omega) (Nat.le_refl _) (by omega) 4 6 6 rfl rfl rfl W
   go_upto_region 4 with (at_make; refine wp_make_b rfl _ _ rfl w1.heap.size 8 _ _ rfl rfl rfl rfl (by omega) (Nat.le_refl _) ?_; intro w2 hO hb2; have HO := hid (show OB w2 w1.heap.size (.slice (some ⟨w1.heap.size, 0, none⟩) 8 8) 8 (fun _ => 0) from hO); have HC := hid (CE.out.below hb2); have HB := hid (B0.out.trans (hb2.mono B0.out.size)); clear hO hb2 CE B0)
   clear y0
   refine wp_region_held_drew (S := fun w' => Ce w' w.heap.size [.int .i64 p.kind, .int .i64 p.life, .int .i64 p.piece, .int .i64 p.src, .int .i64 p.dst, .int .i64 p.fp, .int .i64 p.tp, .int .i64 p.flags, .int .i64 p.label, .bool p.bare, .int .i64 p.code, .slice AO p.no cO, .slice AD p.nd cD]) (by kernel_rfl) ?_ (fun hHeld => ?_)
   ·exact HC.out.drew_
   refine tkq 0 hHeld ?_
   refine tkq 1 hHeld ?_
   refine tkq 2 hHeld ?_
   refine tkq 3 hHeld ?_ (hy := by intro w hSw; (try dsimp only at hSw); have y := hSw.2.1 5 _ rfl; go_simp; (try with_reducible rfl))
   refine only 4 rfl (by kernel_rfl) rfl (fun K hK => ?_)
   go_simp
   refine (put_anyW (Ow.drew HO.out) 0 2 2 p.fp (by omega) (by omega)).mono ?_
   rintro e' w3 ⟨rfl, hO, hg⟩
   try go_wp2_with fail
   refine hK.out _ _ (hHeld.grown hg (fun e => by injection e with e; omega)) (fun _ => ?_)
   have HO2 := hid hO
   have HC2 := hid (hHeld.grown hg (fun e => by injection e with e; omega))
   have HB2 := hid (HB.out.trans (below_of_grown (grown_drew hg) (by omega) HB.out.size))
   clear hK hHeld hO hg HO HC HB
   (try simp only [Act.put, List.setIfInBounds_toArray, List.set_cons_zero, List.set_cons_succ])
   refine wpAnyH_done (by kernel_rfl) ?_ _
   have HO := HO2
   have HC := HC2
   have HB := HB2
   clear HO2 HC2 HB2
   go_upto_region 5 with (fail)
   refine wp_region_held_drew (S := fun w' => Ce w' w.heap.size [.int .i64 p.kind, .int .i64 p.life, .int .i64 p.piece, .int .i64 p.src, .int .i64 p.dst, .int .i64 p.fp, .int .i64 p.tp, .int .i64 p.flags, .int .i64 p.label, .bool p.bare, .int .i64 p.code, .slice AO p.no cO, .slice AD p.nd cD]) (by kernel_rfl) ?_ (fun hHeld => ?_)
   ·exact HC.out.drew_
   refine tkq 0 hHeld ?_
   refine tkq 1 hHeld ?_
   refine tkq 2 hHeld ?_
   refine tkq 3 hHeld ?_ (hy := by intro w hSw; (try dsimp only at hSw); have y := hSw.2.1 6 _ rfl; go_simp; (try with_reducible rfl))
   refine only 4 rfl (by kernel_rfl) rfl (fun K hK => ?_)
   go_simp
   refine (put_anyW (Ow.drew HO.out) 2 2 2 p.tp (by omega) (by omega)).mono ?_
   rintro e' w4 ⟨rfl, hO, hg⟩
   try go_wp2_with fail
   refine hK.out _ _ (hHeld.grown hg (fun e => by injection e with e; omega)) (fun _ => ?_)
   have HO2 := hid hO
   have HC2 := hid (hHeld.grown hg (fun e => by injection e with e; omega))
   have HB2 := hid (HB.out.trans (below_of_grown (grown_drew hg) (by omega) HB.out.size))
   clear hK hHeld hO hg HO HC HB
   (try simp only [Act.put, List.setIfInBounds_toArray, List.set_cons_zero, List.set_cons_succ])
   refine wpAnyH_done (by kernel_rfl) ?_ _
   have HO := HO2
   have HC := HC2
   have HB := HB2
   clear HO2 HC2 HB2
   have y0 := HC.out.2.1 0 _ rfl
   go_upto_region 9 with (fail)
   clear y0
   obtain ⟨g', e, hB, hgs, hce, hfr⟩ := Ow.block_ HO.out (by omega)
   injection e with e
   injection e with e _
   subst e
   have c4 := hce 4 (by omega)
   have c5 := hce 5 (by omega)
   have f4 := hfr 4
   have f5 := hfr 5
   clear hce hfr
   have u7 : IntKind.u8.wrap p.flags = p.flags := by rw [IntKind.wrap_u8]; omega
   have u11 : IntKind.u8.wrap (p.no : Int) = (p.no : Int) := by rw [IntKind.wrap_u8]; omega
   have n40 : (p.no : Int) ≤ 255 := by omega
   have n0 : (0 : Int) ≤ p.no := by omega
   refine wp_region_held_drew (S := fun w' => Ce w' w.heap.size [.int .i64 p.kind, .int .i64 p.life, .int .i64 p.piece, .int .i64 p.src, .int .i64 p.dst, .int .i64 p.fp, .int .i64 p.tp, .int .i64 p.flags, .int .i64 p.label, .bool p.bare, .int .i64 p.code, .slice AO p.no cO, .slice AD p.nd cD]) (by kernel_rfl) ?_ (fun hHeld => ?_)
   ·exact HC.out.drew_
   refine tkq 0 hHeld ?_
   refine tkq 1 hHeld ?_
   refine tkq 2 hHeld ?_
   refine tkq 3 hHeld ?_ (hy := by intro w hSw; (try dsimp only at hSw); have q7 := hSw.2.1 7 _ rfl; have q11 := hSw.2.1 11 _ rfl; go_simp; (try with_reducible rfl))
   refine tkq 4 hHeld ?_
   refine tkq 5 hHeld ?_
   refine tkq 6 hHeld ?_ (hy := by intro w hSw; (try dsimp only at hSw); have q7 := hSw.2.1 7 _ rfl; have q11 := hSw.2.1 11 _ rfl; go_simp; (try with_reducible rfl))
   refine tkq 7 hHeld ?_
   refine tkq 8 hHeld ?_
   refine tkq 9 hHeld ?_
   refine only 10 rfl (by kernel_rfl) rfl (fun K hK => ?_)
   go_simp
   have hH2 : Ce (w4.setCell ⟨w1.heap.size, 4, none⟩ (.int .u8 p.flags)).drew w.heap.size [.int .i64 p.kind, .int .i64 p.life, .int .i64 p.piece, .int .i64 p.src, .int .i64 p.dst, .int .i64 p.fp, .int .i64 p.tp, .int .i64 p.flags, .int .i64 p.label, .bool p.bare, .int .i64 p.code, .slice AO p.no cO, .slice AD p.nd cD] := Ce.drew_ (HC.out.grown (gs 4 (.int .u8 p.flags) (World.grownBy.refl w4 (some w1.heap.size))) (fun e => by injection e with e; omega))
   refine hK.out _ _ hH2 (fun _ => ?_)
   clear hK
   (try simp only [Act.put, List.setIfInBounds_toArray, List.set_cons_zero, List.set_cons_succ])
   refine tkq 11 hH2 ?_
   refine only 12 rfl (by kernel_rfl) rfl (fun K hK => ?_)
   go_simp
   have hH3 : Ce ((w4.setCell ⟨w1.heap.size, 4, none⟩ (.int .u8 p.flags)).setCell ⟨w1.heap.size, 5, none⟩ (.int .u8 (p.no : Int))).drew w.heap.size [.int .i64 p.kind, .int .i64 p.life, .int .i64 p.piece, .int .i64 p.src, .int .i64 p.dst, .int .i64 p.fp, .int .i64 p.tp, .int .i64 p.flags, .int .i64 p.label, .bool p.bare, .int .i64 p.code, .slice AO p.no cO, .slice AD p.nd cD] := Ce.drew_ (HC.out.grown (gs 5 (.int .u8 (p.no : Int)) (gs 4 (.int .u8 p.flags) (World.grownBy.refl w4 (some w1.heap.size)))) (fun e => by injection e with e; omega))
   refine hK.out _ _ hH3 (fun _ => ?_)
   clear hK
   (try simp only [Act.put, List.setIfInBounds_toArray, List.set_cons_zero, List.set_cons_succ])
   refine wpAnyH_done (by kernel_rfl) ?_ _
   have HO2 := hid (Ow.drew (OB.store (OB.store HO.out 4 p.flags) 5 (p.no : Int)))
   have HB2 := hid ((HB.out.trans (below_of_grown (gs 5 (.int .u8 (p.no : Int)) (gs 4 (.int .u8 p.flags) (World.grownBy.refl w4 (some w1.heap.size)))) (by omega) HB.out.size)).drew)
   have HC2 := hid hH3
   clear hH3 hH2 hHeld HO HC HB c4 c5 f4 f5
   generalize ((w4.setCell ⟨w1.heap.size, 4, none⟩ (.int .u8 p.flags)).setCell ⟨w1.heap.size, 5, none⟩ (.int .u8 (p.no : Int))).drew = w5 at *
   have y11 := HC2.out.2.1 11 _ rfl
   go_upto_region 11 with (at_builtin; refine wp_app_b rfl (.tmp 48) (.tmp 50) rfl w1.heap.size _ 8 _ rfl HO2.out _ p.no _ p.go rfl (HOW.out _ HB2.out) (by omega) (ow_base HO2.out (by omega)) ?_; intro A3 c3 w6 h1 h2 h3 h4 h5 h6; have O3 := hid h1; have B3 := hid (HB2.out.trans (h4.mono (by omega))); have C3 := hid (h4.cell (p := ⟨w.heap.size, 12, none⟩) (by exact lP)); have Z3 := hid h4.size; clear h1 h2 h3 h4 h5 h6)
   have y12 : w6.cell? ⟨w.heap.size, 12, none⟩ = some (.slice AD p.nd cD) := C3.out.trans (HC2.out.2.1 12 _ rfl)
   clear y11
   go_wp2_with (at_builtin; refine wp_app_b rfl (.tmp 52) (.tmp 54) rfl w1.heap.size _ (8 + p.no) _ rfl O3.out _ p.nd _ p.gd rfl (HDW.out _ B3.out) (by omega) (ow_base O3.out (by omega)) ?_; intro A4 c4 w7 h1 h2 h3 h4 h5 h6; have O4 := hid h1; have hc4 := h2; have B4 := hid (B3.out.trans (h4.mono (by omega))); clear h1 h2 h3 h4 h5 h6)
   go_ret
   refine ⟨A4, c4, by rw [HL.out]; rfl, ?_, by rw [HL.out]; exact hc4, B4.out⟩
   rw [HL.out, HF.out]
   exact OB.base O4.out (by omega)
  ·have k2' : p.kind = 2 := by simpa using k2
   have HL : Hid (lenP p - 16 = 8 + p.nd) := hid (by unfold lenP; rw [if_neg k3', if_pos k2']; omega)
   have HF : Hid (bodyF p = fun j => if j < 8 then putF (putF (putF (fun _ => 0) 0 2 p.fp) 2 2 p.tp) 4 2 p.label j else p.gd (j - 8)) := hid (by funext j; unfold bodyF; rw [if_neg k3', if_pos k2']; unfold putF; dsimp only; (repeat' split); all_goals (first | rfl | (exfalso; omega) | (congr 1; omega)))
   clear k2' k3' rc rf hno
   go_enter Tryz.func136, Tryz.ntmps136
   go_upto_region 1 with (fail)
   generalize (w.alloc (.cells #[.int .i64 p.kind, .int .i64 p.life, .int .i64 p.piece, .int .i64 p.src, .int .i64 p.dst, .int .i64 p.fp, .int .i64 p.tp, .int .i64 p.flags, .int .i64 p.label, .bool p.bare, .int .i64 p.code, .slice AO p.no cO, .slice AD p.nd cD] 39)) = w1 at *
   have lP : w.heap.size < w1.heap.size := CE.out.1
   have y0 := CE.out.2.1 0 _ rfl
   have CP0 : ∀ W, (Instr.slice 37 (.slice (some ⟨w1.heap.size, 0, none⟩) 8 8) none (some (.int .i64 2)) (some (.int .i64 2))).run Tryz.prog W = .ok (.slice (some ⟨w1.heap.size, 0, none⟩) 2 2) W := fun W => by rw [run_slice_hm W 37 _ 8 8 elem_b .i64 .i64 _ _ (by omega) (by omega) (by omega), size_b W]; rfl
   have CP2 := fun W => cut_put (G := w1.heap.size) (n := 8) (c := 8) 2 2 (by omega) (Nat.le_refl _) (by omega) 2 4 4 rfl rfl rfl W
   have CP4 := fun W => cut_put (G := w1.heap.size) (n := 8) (c := 8) 4 2 (by omega) (Nat.le_refl _) (by omega) 4 6 6 rfl rfl rfl W
   go_upto_region 4 with (at_make; refine wp_make_b rfl _ _ rfl w1.heap.size 8 _ _ rfl rfl rfl rfl (by omega) (Nat.le_refl _) ?_; intro w2 hO hb2; have HO := hid (show OB w2 w1.heap.size (.slice (some ⟨w1.heap.size, 0, none⟩) 8 8) 8 (fun _ => 0) from hO); have HC := hid (CE.out.below hb2); have HB := hid (B0.out.trans (hb2.mono B0.out.size)); clear hO hb2 CE B0)
   clear y0
   refine wp_region_held_drew (S := fun w' => Ce w' w.heap.size [.int .i64 p.kind, .int .i64 p.life, .int .i64 p.piece, .int .i64 p.src, .int .i64 p.dst, .int .i64 p.fp, .int .i64 p.tp, .int .i64 p.flags, .int .i64 p.label, .bool p.bare, .int .i64 p.code, .slice AO p.no cO, .slice AD p.nd cD]) (by kernel_rfl) ?_ (fun hHeld => ?_)
   ·exact HC.out.drew_
   refine tkq 0 hHeld ?_
   refine tkq 1 hHeld ?_
   refine tkq 2 hHeld ?_
   refine tkq 3 hHeld ?_ (hy := by intro w hSw; (try dsimp only at hSw); have y := hSw.2.1 5 _ rfl; go_simp; (try with_reducible rfl))
   refine only 4 rfl (by kernel_rfl) rfl (fun K hK => ?_)
   go_simp
   refine (put_anyW (Ow.drew HO.out) 0 2 2 p.fp (by omega) (by omega)).mono ?_
   rintro e' w3 ⟨rfl, hO, hg⟩
   try go_wp2_with fail
   refine hK.out _ _ (hHeld.grown hg (fun e => by injection e with e; omega)) (fun _ => ?_)
   have HO2 := hid hO
   have HC2 := hid (hHeld.grown hg (fun e => by injection e with e; omega))
   have HB2 := hid (HB.out.trans (below_of_grown (grown_drew hg) (by omega) HB.out.size))
   clear hK hHeld hO hg HO HC HB
   (try simp only [Act.put, List.setIfInBounds_toArray, List.set_cons_zero, List.set_cons_succ])
   refine wpAnyH_done (by kernel_rfl) ?_ _
   have HO := HO2
   have HC := HC2
   have HB := HB2
   clear HO2 HC2 HB2
   go_upto_region 5 with (fail)
   refine wp_region_held_drew (S := fun w' => Ce w' w.heap.size [.int .i64 p.kind, .int .i64 p.life, .int .i64 p.piece, .int .i64 p.src, .int .i64 p.dst, .int .i64 p.fp, .int .i64 p.tp, .int .i64 p.flags, .int .i64 p.label, .bool p.bare, .int .i64 p.code, .slice AO p.no cO, .slice AD p.nd cD]) (by kernel_rfl) ?_ (fun hHeld => ?_)
   ·exact HC.out.drew_
   refine tkq 0 hHeld ?_
   refine tkq 1 hHeld ?_
   refine tkq 2 hHeld ?_
   refine tkq 3 hHeld ?_ (hy := by intro w hSw; (try dsimp only at hSw); have y := hSw.2.1 6 _ rfl; go_simp; (try with_reducible rfl))
   refine only 4 rfl (by kernel_rfl) rfl (fun K hK => ?_)
   go_simp
   refine (put_anyW (Ow.drew HO.out) 2 2 2 p.tp (by omega) (by omega)).mono ?_
   rintro e' w4 ⟨rfl, hO, hg⟩
   try go_wp2_with fail
   refine hK.out _ _ (hHeld.grown hg (fun e => by injection e with e; omega)) (fun _ => ?_)
   have HO2 := hid hO
   have HC2 := hid (hHeld.grown hg (fun e => by injection e with e; omega))
   have HB2 := hid (HB.out.trans (below_of_grown (grown_drew hg) (by omega) HB.out.size))
   clear hK hHeld hO hg HO HC HB
   (try simp only [Act.put, List.setIfInBounds_toArray, List.set_cons_zero, List.set_cons_succ])
   refine wpAnyH_done (by kernel_rfl) ?_ _
   have HO := HO2
   have HC := HC2
   have HB := HB2
   clear HO2 HC2 HB2
   have y0 := HC.out.2.1 0 _ rfl
   go_upto_region 7 with (fail)
   clear y0
   refine wp_region_held_drew (S := fun w' => Ce w' w.heap.size [.int .i64 p.kind, .int .i64 p.life, .int .i64 p.piece, .int .i64 p.src, .int .i64 p.dst, .int .i64 p.fp, .int .i64 p.tp, .int .i64 p.flags, .int .i64 p.label, .bool p.bare, .int .i64 p.code, .slice AO p.no cO, .slice AD p.nd cD]) (by kernel_rfl) ?_ (fun hHeld => ?_)
   ·exact HC.out.drew_
   refine tkq 0 hHeld ?_
   refine tkq 1 hHeld ?_
   refine tkq 2 hHeld ?_
   refine tkq 3 hHeld ?_ (hy := by intro w hSw; (try dsimp only at hSw); have y := hSw.2.1 8 _ rfl; go_simp; (try with_reducible rfl))
   refine only 4 rfl (by kernel_rfl) rfl (fun K hK => ?_)
   go_simp
   refine (put_anyW (Ow.drew HO.out) 4 2 2 p.label (by omega) (by omega)).mono ?_
   rintro e' w5 ⟨rfl, hO, hg⟩
   try go_wp2_with fail
   refine hK.out _ _ (hHeld.grown hg (fun e => by injection e with e; omega)) (fun _ => ?_)
   have HO2 := hid hO
   have HC2 := hid (hHeld.grown hg (fun e => by injection e with e; omega))
   have HB2 := hid (HB.out.trans (below_of_grown (grown_drew hg) (by omega) HB.out.size))
   clear hK hHeld hO hg HO HC HB
   (try simp only [Act.put, List.setIfInBounds_toArray, List.set_cons_zero, List.set_cons_succ])
   refine wpAnyH_done (by kernel_rfl) ?_ _
   have HO := HO2
   have HC := HC2
   have HB := HB2
   clear HO2 HC2 HB2
   have y12 := HC.out.2.1 12 _ rfl
   go_wp2_with (at_builtin; refine wp_app_b rfl (.tmp 33) (.tmp 35) rfl w1.heap.size _ 8 _ rfl HO.out _ p.nd _ p.gd rfl (HDW.out _ HB.out) (by omega) (ow_base HO.out (by omega)) ?_; intro A3 c3 w6 h1 h2 h3 h4 h5 h6; have O3 := hid h1; have hc3 := h2; have B3 := hid (HB.out.trans (h4.mono (by omega))); clear h1 h2 h3 h4 h5 h6)
   go_ret
   refine ⟨A3, c3, by rw [HL.out]; rfl, ?_, by rw [HL.out]; exact hc3, B3.out⟩
   rw [HL.out, HF.out]
   exact OB.base O3.out (by omega)
 ·have k3' : p.kind = 3 := by simpa using k3
  have rc' := rc k3'
  obtain ⟨rc0, rc1⟩ := rc'
  have HL : Hid (lenP p - 16 = 4 + p.nd) := hid (by unfold lenP; rw [if_pos k3']; omega)
  have HF : Hid (bodyF p = fun j => if j < 4 then (if j = 0 then p.code else 0) else p.gd (j - 4)) := hid (by funext j; unfold bodyF; rw [if_pos k3']; by_cases h0 : j = 0; (rw [if_pos h0, if_pos (by omega), if_pos h0]); (rw [if_neg h0]; by_cases h4 : j < 4; (rw [if_pos h4, if_pos h4, if_neg h0]); (rw [if_neg h4, if_neg h4])))
  clear k3' rc rf hno
  go_enter Tryz.func136, Tryz.ntmps136
  go_upto_region 1 with (fail)
  generalize (w.alloc (.cells #[.int .i64 p.kind, .int .i64 p.life, .int .i64 p.piece, .int .i64 p.src, .int .i64 p.dst, .int .i64 p.fp, .int .i64 p.tp, .int .i64 p.flags, .int .i64 p.label, .bool p.bare, .int .i64 p.code, .slice AO p.no cO, .slice AD p.nd cD] 39)) = w1 at *
  have y0 := CE.out.2.1 0 _ rfl
  have y10 := CE.out.2.1 10 _ rfl
  have y12 := CE.out.2.1 12 _ rfl
  have HR := hid (rowc (w := w1) (x := p.code))
  have CE2 := CE.out.alloc (.cells #[.int .u8 p.code, .int .u8 0, .int .u8 0, .int .u8 0] 5)
  have z12 := CE2.2.1 12 _ rfl
  clear CE2
  have HD2 := hid (HDW.out _ (B0.out.alloc B0.out.size (.cells #[.int .u8 p.code, .int .u8 0, .int .u8 0, .int .u8 0] 5)))
  have B2 := hid (B0.out.alloc B0.out.size (.cells #[.int .u8 p.code, .int .u8 0, .int .u8 0, .int .u8 0] 5))
  go_wp2_with (at_builtin; refine wp_app_b rfl (.tmp 10) (.tmp 12) rfl w1.heap.size _ 4 _ rfl HR.out _ p.nd _ p.gd rfl HD2.out (by omega) (by simp) ?_; intro A3 c3 w3 h1 h2 h3 h4 h5 h6; have O3 := hid h1; have hc3 := h2; have B3 := hid (B2.out.trans (h4.mono B0.out.size)); clear h1 h2 h3 h4 h5 h6)
  go_ret
  refine ⟨A3, c3, by rw [HL.out]; rfl, ?_, by rw [HL.out]; exact hc3, B3.out⟩
  rw [HL.out, HF.out]
  exact OB.base O3.out B0.out.size
end Go.Proofs.YteapnfdpkjbfhaaGreat
namespace Go.Proofs.YteapnfdpkjbfhaaGreat
set_option linter.unusedVariables false
set_option linter.unusedSimpArgs false
open Go.RowKit Go.ChangeShapes Go.WideShapes Go.ChangeAt
theorem Ce.below_ {w w' : World} {B b : Nat} {l : List Value} (h : Ce w b l) (hb : Below B w w') (hB : b < B) : Ce w' b l :=
 ⟨Nat.lt_of_lt_of_le h.1 hb.size, fun j v hj => (hb.cell (p := ⟨b, j, none⟩) hB).trans (h.2.1 j v hj), fun j => (World.frozen?_of_block (a := ⟨b, j, none⟩) (hb.block b hB)).trans (h.2.2 j)⟩
theorem raw_eq (p : Pk) : putF (fun j => if j < 16 then putF (putF (set1 (set1 (set1 (fun _ => 0) 0 p.kind) 1 p.life) 12 p.piece) 4 4 p.src) 8 4 p.dst j else bodyF p (j - 16)) 2 2 (lenP p : Int) = rawF p := by
 funext j
 unfold rawF putF set1
 dsimp only
 (repeat' split)
 all_goals (first | rfl | (exfalso; omega) | (congr 1; omega))
theorem builtF_talk {p : Pk} (h : ¬ (p.kind = 2 ∧ p.bare = true)) : builtF p = fillF (putF (hedF p) (sumA p.kind) 2 (65535 - norm (tot (sumF (hedF p) (lenP p)) (sumN (hedF p) (lenP p))))) := by unfold builtF; rw [if_neg h]
theorem builtF_bare {p : Pk} (h : p.kind = 2 ∧ p.bare = true) : builtF p = hedF p := by unfold builtF; rw [if_pos h]
theorem hed_0 (p : Pk) : hedF p 0 = p.kind := by unfold hedF; rw [putF_out (by omega), raw_0]
set_option maxHeartbeats 8000000 in
theorem build_any (p : Pk) (AO : Option Addr) (cO : Nat) (AD : Option Addr) (cD : Nat) (w : World) (HO : By w AO p.no p.go) (HD : By w AD p.nd p.gd) (hgo : IsB p.go) (hgd : IsB p.gd) (h1 : p.no ≤ 1000000) (h2 : p.nd ≤ 1000000) :
 Calls Tryz.prog 108 #[.agg #[.int .i64 p.kind, .int .i64 p.life, .int .i64 p.piece, .int .i64 p.src, .int .i64 p.dst, .int .i64 p.fp, .int .i64 p.tp, .int .i64 p.flags, .int .i64 p.label, .bool p.bare, .int .i64 p.code, .slice AO p.no cO, .slice AD p.nd cD]] w (Outd w (buildE p) (lenP p) (builtF p)) := by
 have HOW := hid (fun (W : World) (hw : Below w.heap.size w W) => Sl.below HO hw (Nat.le_refl _))
 have HDW := hid (fun (W : World) (hw : Below w.heap.size w W) => Sl.below HD hw (Nat.le_refl _))
 have CE := hid (Ce.made (w := w) (l := [.int .i64 p.kind, .int .i64 p.life, .int .i64 p.piece, .int .i64 p.src, .int .i64 p.dst, .int .i64 p.fp, .int .i64 p.tp, .int .i64 p.flags, .int .i64 p.label, .bool p.bare, .int .i64 p.code, .slice AO p.no cO, .slice AD p.nd cD]) (T := 39) (g := w.heap.size) rfl)
 have B0 := hid ((Below.refl w.heap.size w).alloc (Nat.le_refl _) (.cells #[.int .i64 p.kind, .int .i64 p.life, .int .i64 p.piece, .int .i64 p.src, .int .i64 p.dst, .int .i64 p.fp, .int .i64 p.tp, .int .i64 p.flags, .int .i64 p.label, .bool p.bare, .int .i64 p.code, .slice AO p.no cO, .slice AD p.nd cD] 39))
 simp only [List.toArray] at CE
 have CK := hid (fun w => check_anyW p AO cO AD cD w h1 h2)
 obtain ⟨z, hz⟩ : ∃ z, z = buildE p := ⟨_, rfl⟩
 rw [← hz] at CK
 clear HO HD
 cases z0 : (z != 0)
 ·have hE : buildE p = 0 := by rw [← hz]; simpa using z0
  obtain ⟨e1, e2, e3, e4, e5, e6⟩ := buildE_0 hE
  obtain ⟨⟨rl0, rl1⟩, ⟨rp0, rp1⟩, _, _⟩ := range_facts e2
  have hk := kind_of hE
  have HK := hid hk
  have rk0 : 0 ≤ p.kind := by omega
  have rk1 : p.kind ≤ 255 := by omega
  have BO := hid (fun (W : World) (hw : Below w.heap.size w W) => body_any p AO cO AD cD W (HOW.out W hw) (HDW.out W hw) hE)
  have RB := hid (rawF_B hgd hgo hE)
  have HDB := hid (hedF_B hgd hgo hE)
  have HE := hid hE
  clear e1 e3 e4 hE hk z0 hgo hgd e2
  have hz0 : z = 0 := by rw [hz]; exact HE.out
  subst hz0
  clear hz
  have u0 : IntKind.u8.wrap p.kind = p.kind := by rw [IntKind.wrap_u8]; omega
  have u1 : IntKind.u8.wrap p.life = p.life := by rw [IntKind.wrap_u8]; omega
  have u2 : IntKind.u8.wrap p.piece = p.piece := by rw [IntKind.wrap_u8]; omega
  go_enter Tryz.func108, Tryz.ntmps108
  go_upto_region 1 with (fail)
  generalize (w.alloc (.cells #[.int .i64 p.kind, .int .i64 p.life, .int .i64 p.piece, .int .i64 p.src, .int .i64 p.dst, .int .i64 p.fp, .int .i64 p.tp, .int .i64 p.flags, .int .i64 p.label, .bool p.bare, .int .i64 p.code, .slice AO p.no cO, .slice AD p.nd cD] 39)) = w1 at *
  have lP : w.heap.size < w1.heap.size := CE.out.1
  have y0 := CE.out.2.1 0 _ rfl
  have y1 := CE.out.2.1 1 _ rfl
  have y2 := CE.out.2.1 2 _ rfl
  have y3 := CE.out.2.1 3 _ rfl
  have y4 := CE.out.2.1 4 _ rfl
  have y5 := CE.out.2.1 5 _ rfl
  have y6 := CE.out.2.1 6 _ rfl
  have y7 := CE.out.2.1 7 _ rfl
  have y8 := CE.out.2.1 8 _ rfl
  have y9 := CE.out.2.1 9 _ rfl
  have y10 := CE.out.2.1 10 _ rfl
  have y11 := CE.out.2.1 11 _ rfl
  have y12 := CE.out.2.1 12 _ rfl
  go_wp2_with fail
  refine (CK.out _).mono ?_
  rintro e w2 ⟨rfl, hb⟩
  have HC := hid (CE.out.below hb)
  have HB := hid (B0.out.trans (hb.mono B0.out.size))
  have lw : w1.heap.size ≤ w2.heap.size := hb.size
  clear hb CE B0 CK
  clear y0 y1 y2 y3 y4 y5 y6 y7 y8 y9 y10 y11 y12
  have lR : w.heap.size < w2.heap.size := by omega
  go_upto_region 5 with (at_make; refine wp_make_b rfl _ _ rfl w2.heap.size 16 _ _ rfl rfl rfl rfl (by omega) (Nat.le_refl _) ?_; intro w3 hO hb2; have HO := hid (show OB w3 w2.heap.size (.slice (some ⟨w2.heap.size, 0, none⟩) 16 16) 16 (fun _ => 0) from hO); have HC2 := hid (HC.out.below hb2); have HB2 := hid (HB.out.trans (hb2.mono HB.out.size)); clear hO hb2)
  clear HC HB
  obtain ⟨g', e, hB, hgs, hce, hfr⟩ := Ow.block_ HO.out (by omega)
  injection e with e
  injection e with e _
  subst e
  have c0 := hce 0 (by omega)
  have c1 := hce 1 (by omega)
  have c12 := hce 12 (by omega)
  have f0 := hfr 0
  have f1 := hfr 1
  have f12 := hfr 12
  clear hce hfr
  refine wp_region_held_drew (S := fun w' => Ce w' w.heap.size [.int .i64 p.kind, .int .i64 p.life, .int .i64 p.piece, .int .i64 p.src, .int .i64 p.dst, .int .i64 p.fp, .int .i64 p.tp, .int .i64 p.flags, .int .i64 p.label, .bool p.bare, .int .i64 p.code, .slice AO p.no cO, .slice AD p.nd cD]) (by kernel_rfl) ?_ (fun hHeld => ?_)
  ·exact HC2.out.drew_
  refine tkq 0 hHeld ?_
  refine tkq 1 hHeld ?_
  refine tkq 2 hHeld ?_
  refine tkq 3 hHeld ?_
  refine tkq 4 hHeld ?_ (hy := by intro w hSw; (try dsimp only at hSw); have q0 := hSw.2.1 0 _ rfl; have q1 := hSw.2.1 1 _ rfl; have q2 := hSw.2.1 2 _ rfl; go_simp; (try with_reducible rfl))
  refine tkq 5 hHeld ?_
  refine tkq 6 hHeld ?_
  refine tkq 7 hHeld ?_ (hy := by intro w hSw; (try dsimp only at hSw); have q0 := hSw.2.1 0 _ rfl; have q1 := hSw.2.1 1 _ rfl; have q2 := hSw.2.1 2 _ rfl; go_simp; (try with_reducible rfl))
  refine tkq 8 hHeld ?_
  refine tkq 9 hHeld ?_
  refine tkq 10 hHeld ?_ (hy := by intro w hSw; (try dsimp only at hSw); have q0 := hSw.2.1 0 _ rfl; have q1 := hSw.2.1 1 _ rfl; have q2 := hSw.2.1 2 _ rfl; go_simp; (try with_reducible rfl))
  refine tkq 11 hHeld ?_
  refine tkq 12 hHeld ?_
  refine only 13 rfl (by kernel_rfl) rfl (fun K hK => ?_)
  go_simp
  have hH0 : Ce (w3.setCell ⟨w2.heap.size, 0, none⟩ (.int .u8 p.kind)).drew w.heap.size [.int .i64 p.kind, .int .i64 p.life, .int .i64 p.piece, .int .i64 p.src, .int .i64 p.dst, .int .i64 p.fp, .int .i64 p.tp, .int .i64 p.flags, .int .i64 p.label, .bool p.bare, .int .i64 p.code, .slice AO p.no cO, .slice AD p.nd cD] := Ce.drew_ (HC2.out.grown (gs 0 (.int .u8 p.kind) (World.grownBy.refl w3 (some w2.heap.size))) (fun e => by injection e with e; omega))
  refine hK.out _ _ hH0 (fun _ => ?_)
  clear hK
  (try simp only [Act.put, List.setIfInBounds_toArray, List.set_cons_zero, List.set_cons_succ])
  refine tkq 14 hH0 ?_
  refine only 15 rfl (by kernel_rfl) rfl (fun K hK => ?_)
  go_simp
  have hH1 : Ce ((w3.setCell ⟨w2.heap.size, 0, none⟩ (.int .u8 p.kind)).setCell ⟨w2.heap.size, 1, none⟩ (.int .u8 p.life)).drew w.heap.size [.int .i64 p.kind, .int .i64 p.life, .int .i64 p.piece, .int .i64 p.src, .int .i64 p.dst, .int .i64 p.fp, .int .i64 p.tp, .int .i64 p.flags, .int .i64 p.label, .bool p.bare, .int .i64 p.code, .slice AO p.no cO, .slice AD p.nd cD] := Ce.drew_ (HC2.out.grown (gs 1 (.int .u8 p.life) (gs 0 (.int .u8 p.kind) (World.grownBy.refl w3 (some w2.heap.size)))) (fun e => by injection e with e; omega))
  refine hK.out _ _ hH1 (fun _ => ?_)
  clear hK
  (try simp only [Act.put, List.setIfInBounds_toArray, List.set_cons_zero, List.set_cons_succ])
  refine tkq 16 hH1 ?_
  refine only 17 rfl (by kernel_rfl) rfl (fun K hK => ?_)
  go_simp
  have hH2 : Ce (((w3.setCell ⟨w2.heap.size, 0, none⟩ (.int .u8 p.kind)).setCell ⟨w2.heap.size, 1, none⟩ (.int .u8 p.life)).setCell ⟨w2.heap.size, 12, none⟩ (.int .u8 p.piece)).drew w.heap.size [.int .i64 p.kind, .int .i64 p.life, .int .i64 p.piece, .int .i64 p.src, .int .i64 p.dst, .int .i64 p.fp, .int .i64 p.tp, .int .i64 p.flags, .int .i64 p.label, .bool p.bare, .int .i64 p.code, .slice AO p.no cO, .slice AD p.nd cD] := Ce.drew_ (HC2.out.grown (gs 12 (.int .u8 p.piece) (gs 1 (.int .u8 p.life) (gs 0 (.int .u8 p.kind) (World.grownBy.refl w3 (some w2.heap.size))))) (fun e => by injection e with e; omega))
  refine hK.out _ _ hH2 (fun _ => ?_)
  clear hK
  (try simp only [Act.put, List.setIfInBounds_toArray, List.set_cons_zero, List.set_cons_succ])
  refine wpAnyH_done (by kernel_rfl) ?_ _
  have HO3 := hid (Ow.drew (OB.store (OB.store (OB.store HO.out 0 p.kind) 1 p.life) 12 p.piece))
  have HB := hid ((HB2.out.trans (below_of_grown (gs 12 (.int .u8 p.piece) (gs 1 (.int .u8 p.life) (gs 0 (.int .u8 p.kind) (World.grownBy.refl w3 (some w2.heap.size))))) (by omega) HB2.out.size)).drew)
  have HC := hid hH2
  clear hH2 hH1 hH0 hHeld HO HC2 HB2 c0 c1 c12 f0 f1 f12
  have HO := HO3
  clear HO3
  generalize (((w3.setCell ⟨w2.heap.size, 0, none⟩ (.int .u8 p.kind)).setCell ⟨w2.heap.size, 1, none⟩ (.int .u8 p.life)).setCell ⟨w2.heap.size, 12, none⟩ (.int .u8 p.piece)).drew = w4 at *
  have CP4 := fun W => cut_put (G := w2.heap.size) (n := 16) (c := 16) 4 4 (by omega) (Nat.le_refl _) (by omega) 4 8 8 rfl rfl rfl W
  have CP8 := fun W => cut_put (G := w2.heap.size) (n := 16) (c := 16) 8 4 (by omega) (Nat.le_refl _) (by omega) 8 12 12 rfl rfl rfl W
  go_upto_region 6 with (fail)
  refine wp_region_held_drew (S := fun w' => Ce w' w.heap.size [.int .i64 p.kind, .int .i64 p.life, .int .i64 p.piece, .int .i64 p.src, .int .i64 p.dst, .int .i64 p.fp, .int .i64 p.tp, .int .i64 p.flags, .int .i64 p.label, .bool p.bare, .int .i64 p.code, .slice AO p.no cO, .slice AD p.nd cD]) (by kernel_rfl) ?_ (fun hHeld => ?_)
  ·exact HC.out.drew_
  refine tkq 0 hHeld ?_
  refine tkq 1 hHeld ?_
  refine tkq 2 hHeld ?_
  refine tkq 3 hHeld ?_ (hy := by intro w hSw; (try dsimp only at hSw); have y := hSw.2.1 3 _ rfl; go_simp; (try with_reducible rfl))
  refine only 4 rfl (by kernel_rfl) rfl (fun K hK => ?_)
  go_simp
  refine (put_anyW (Ow.drew HO.out) 4 4 4 p.src (by omega) (by omega)).mono ?_
  rintro e' w5 ⟨rfl, hO, hg⟩
  try go_wp2_with fail
  refine hK.out _ _ (hHeld.grown hg (fun e => by injection e with e; omega)) (fun _ => ?_)
  have HO2 := hid hO
  have HC2 := hid (hHeld.grown hg (fun e => by injection e with e; omega))
  have HB2 := hid (HB.out.trans (below_of_grown (grown_drew hg) (by omega) HB.out.size))
  clear hK hHeld hO hg HO HC HB
  (try simp only [Act.put, List.setIfInBounds_toArray, List.set_cons_zero, List.set_cons_succ])
  refine wpAnyH_done (by kernel_rfl) ?_ _
  have HO := HO2
  have HC := HC2
  have HB := HB2
  clear HO2 HC2 HB2
  go_upto_region 7 with (fail)
  refine wp_region_held_drew (S := fun w' => Ce w' w.heap.size [.int .i64 p.kind, .int .i64 p.life, .int .i64 p.piece, .int .i64 p.src, .int .i64 p.dst, .int .i64 p.fp, .int .i64 p.tp, .int .i64 p.flags, .int .i64 p.label, .bool p.bare, .int .i64 p.code, .slice AO p.no cO, .slice AD p.nd cD]) (by kernel_rfl) ?_ (fun hHeld => ?_)
  ·exact HC.out.drew_
  refine tkq 0 hHeld ?_
  refine tkq 1 hHeld ?_
  refine tkq 2 hHeld ?_
  refine tkq 3 hHeld ?_ (hy := by intro w hSw; (try dsimp only at hSw); have y := hSw.2.1 4 _ rfl; go_simp; (try with_reducible rfl))
  refine only 4 rfl (by kernel_rfl) rfl (fun K hK => ?_)
  go_simp
  refine (put_anyW (Ow.drew HO.out) 8 4 4 p.dst (by omega) (by omega)).mono ?_
  rintro e' w6 ⟨rfl, hO, hg⟩
  try go_wp2_with fail
  refine hK.out _ _ (hHeld.grown hg (fun e => by injection e with e; omega)) (fun _ => ?_)
  have HO2 := hid hO
  have HC2 := hid (hHeld.grown hg (fun e => by injection e with e; omega))
  have HB2 := hid (HB.out.trans (below_of_grown (grown_drew hg) (by omega) HB.out.size))
  clear hK hHeld hO hg HO HC HB
  (try simp only [Act.put, List.setIfInBounds_toArray, List.set_cons_zero, List.set_cons_succ])
  refine wpAnyH_done (by kernel_rfl) ?_ _
  have HO := HO2
  have HC := HC2
  have HB := HB2
  clear HO2 HC2 HB2
  clear CP4 CP8
  go_upto_region 8 with (fail)
  have y0 := HC.out.2.1 0 _ rfl
  have y1 := HC.out.2.1 1 _ rfl
  have y2 := HC.out.2.1 2 _ rfl
  have y3 := HC.out.2.1 3 _ rfl
  have y4 := HC.out.2.1 4 _ rfl
  have y5 := HC.out.2.1 5 _ rfl
  have y6 := HC.out.2.1 6 _ rfl
  have y7 := HC.out.2.1 7 _ rfl
  have y8 := HC.out.2.1 8 _ rfl
  have y9 := HC.out.2.1 9 _ rfl
  have y10 := HC.out.2.1 10 _ rfl
  have y11 := HC.out.2.1 11 _ rfl
  have y12 := HC.out.2.1 12 _ rfl
  go_wp2_with fail
  refine (BO.out _ HB.out).mono ?_
  rintro e w7 ⟨A7, c7, rfl, hO7, hc7, hb7⟩
  clear y0 y1 y2 y3 y4 y5 y6 y7 y8 y9 y10 y11 y12
  have HO2 := hid (HO.out.keep_ hb7)
  have HC2 := hid (HC.out.below hb7)
  have HB2 := hid (HB.out.trans (hb7.mono HB.out.size))
  have OB7 := hid hO7.sl1
  have lw7 := ow_base HO2.out (by omega)
  clear HO HC HB hO7 hb7 BO HOW HDW
  go_upto_region 9 with (at_builtin; refine wp_app_b rfl (.tmp 38) (.tmp 40) rfl w2.heap.size _ 16 _ rfl HO2.out _ (lenP p - 16) _ (bodyF p) rfl OB7.out (by omega) lw7 ?_; intro A8 c8 w8 h1 h2 h3 h4 h5 h6; have HO := hid h1; have hc8 := h2; have HC := hid (HC2.out.below_ h4 lR); have HB := hid (HB2.out.trans (h4.mono (by omega))); clear h1 h2 h3 h4 h5 h6)
  clear HO2 HC2 HB2 OB7 lw7
  obtain ⟨n, hn⟩ : ∃ n, n = lenP p := ⟨_, rfl⟩
  have HN := hid hn
  rw [show 16 + (lenP p - 16) = n from by omega] at *
  rw [← hn] at e5 e6
  clear hn
  obtain ⟨G, e, hB, hgs, hce, hfr⟩ := Ow.block_ HO.out (by omega)
  subst e
  clear hce hfr hgs
  have hPG : w.heap.size ≠ G := by omega
  have CP2 := fun W => cut_put (G := G) (n := n) (c := c8) 2 2 (by omega) hc8 (by omega) 2 4 4 rfl rfl rfl W
  go_wp2_with fail
  refine (put_anyW HO.out 2 2 2 (n : Int) (by omega) (by omega)).mono ?_
  rintro e w9 ⟨rfl, hO, hg⟩
  have HO2 := hid (show OB w9 w2.heap.size (.slice (some ⟨G, 0, none⟩) n c8) n (rawF p) from by rw [← raw_eq p, ← HN.out]; exact hO)
  have HC2 := hid (HC.out.grown hg (fun e => hPG (by injection e with e; exact e.symm)))
  have HB2 := hid (HB.out.trans (below_of_grown hg (by omega) HB.out.size))
  clear hO hg HO HC HB CP2
  go_upto_region 10 with (fail)
  have CP14 := fun W => cut_put (G := G) (n := n) (c := c8) 14 2 (by omega) hc8 (by omega) 14 16 16 rfl rfl rfl W
  have i16 : (16 : Int) ≤ c8 := by omega
  have OF := hid (fun (W : World) (hW : By W (some ⟨G, 0, none⟩) n (rawF p)) c' => of_any (some ⟨G, 0, none⟩) 16 c' (rawF p) W (hW.less (k := 16) (by omega)) RB.out (by omega))
  refine wp_region_held_drew (S := fun _ => True) (by kernel_rfl) trivial (fun hHeld => ?_)
  refine tkq 0 hHeld ?_
  refine tkq 1 hHeld ?_
  refine tkq 2 hHeld ?_
  refine tkq 3 hHeld ?_
  refine only 4 rfl (by kernel_rfl) rfl (fun K hK => ?_)
  go_simp
  refine (OF.out _ (Ow.sl1 (Ow.drew HO2.out)) _).mono ?_
  rintro e' w' ⟨rfl, m, rfl⟩
  try go_wp2_with fail
  refine hK.out _ _ trivial (fun _ => ?_)
  clear hK
  (try simp only [Act.put, List.setIfInBounds_toArray, List.set_cons_zero, List.set_cons_succ])
  refine only 5 rfl (by kernel_rfl) rfl (fun K hK => ?_)
  go_simp
  refine (put_anyW (Ow.drewN HO2.out (1 + m)) 14 2 2 (65535 - norm (tot (rawF p) 16)) (by omega) (by omega)).mono ?_
  rintro e' w10 ⟨rfl, hO, hg⟩
  try go_wp2_with fail
  refine hK.out _ _ trivial (fun _ => ?_)
  have hg2 : w9.grownBy w10 (some G) := ⟨hg.os, hg.tape, hg.output, hg.size, hg.block⟩
  have HO := hid (show OB w10 w2.heap.size (.slice (some ⟨G, 0, none⟩) n c8) n (hedF p) from hO)
  have HC := hid (HC2.out.grown hg2 (fun e => hPG (by injection e with e; exact e.symm)))
  have HB := hid (HB2.out.trans (below_of_grown hg2 (by omega) HB2.out.size))
  clear hK hO hg hg2 HO2 HC2 HB2 CP14 OF RB
  (try simp only [Act.put, List.setIfInBounds_toArray, List.set_cons_zero, List.set_cons_succ])
  refine wpAnyH_done (by kernel_rfl) ?_ _
  have y0 := HC.out.2.1 0 _ rfl
  have y9 := HC.out.2.1 9 _ rfl
  cases k2 : (p.kind != 2)
  ·have k2' : p.kind = 2 := by simpa using k2
   cases bb : p.bare
   ·have BN := hid (show ¬ (p.kind = 2 ∧ p.bare = true) from fun e => by rw [bb] at e; exact absurd e.2 (by decide))
    replace k2' := hid k2'
    rw [bb] at y9
    have S0 := hid (re_i64 (sumat_any (some ⟨G, 0, none⟩) n c8 (hedF p) w10 HO.out.sl1 (by omega)) (show ((sumA (hedF p 0) : Nat) : Int) = ((sumA p.kind : Nat) : Int) from by rw [hed_0]))
    have sl := kind_num (hedF p)
    rw [hed_0] at sl
    obtain ⟨s, hs⟩ : ∃ s, s = sumA p.kind := ⟨_, rfl⟩
    have HS := hid hs
    rw [← hs] at S0 sl
    clear hs
    go_wp2_with fail
    refine S0.out.mono ?_
    rintro e w' ⟨rfl, rfl⟩
    clear y0 y9
    go_upto_region 13 with (fail)
    have CPs := fun W => cut_put (G := G) (n := n) (c := c8) s 2 (by omega) hc8 (by omega) s (s + 2) (s + 2) rfl rfl rfl W
    have qs : IntKind.i64.wrap ((s : Int) + 2) = (s : Int) + 2 := IntWalk.i64_in _ (by omega)
    have SM := hid (fun (W : World) (hW : By W (some ⟨G, 0, none⟩) n (hedF p)) => summed_any (some ⟨G, 0, none⟩) n c8 (hedF p) W hW HDB.out e6 hc8 e5)
    have OF := hid (fun (W : World) A' c' (hW : By W A' (sumN (hedF p) n) (sumF (hedF p) n)) => of_any A' _ c' _ W hW (sumF_B HDB.out n) (by unfold sumN; split <;> omega))
    refine wp_region_held_drew (S := fun _ => True) (by kernel_rfl) trivial (fun hHeld => ?_)
    refine tkq 0 hHeld ?_
    refine tkq 1 hHeld ?_
    refine tkq 2 hHeld ?_
    refine tkq 3 hHeld ?_
    refine tkq 4 hHeld ?_
    refine tkq 5 hHeld ?_
    refine tkq 6 hHeld ?_
    refine tkq 7 hHeld ?_
    refine only 8 rfl (by kernel_rfl) rfl (fun K hK => ?_)
    go_simp
    refine (SM.out _ (Ow.sl1 (Ow.drew HO.out))).mono ?_
    rintro e' w11 ⟨A2, c2, rfl, hS, hb11⟩
    try go_wp2_with fail
    refine hK.out _ _ trivial (fun _ => ?_)
    clear hK
    (try simp only [Act.put, List.setIfInBounds_toArray, List.set_cons_zero, List.set_cons_succ])
    have HO2 := hid (OB.keep_ (Ow.drew HO.out) hb11)
    have HB2 := hid (HB.out.drew.trans (hb11.mono HB.out.drew.size))
    have HS2 := hid hS
    clear hS hb11 HO HB
    refine only 9 rfl (by kernel_rfl) rfl (fun K hK => ?_)
    go_simp
    refine (OF.out _ A2 c2 HS2.out).mono ?_
    rintro e' w' ⟨rfl, m', rfl⟩
    try go_wp2_with fail
    refine hK.out _ _ trivial (fun _ => ?_)
    clear hK
    (try simp only [Act.put, List.setIfInBounds_toArray, List.set_cons_zero, List.set_cons_succ])
    refine only 10 rfl (by kernel_rfl) rfl (fun K hK => ?_)
    go_simp
    refine (put_anyW (Ow.drewN HO2.out m') s 2 2 (65535 - norm (tot (sumF (hedF p) n) (sumN (hedF p) n))) (by omega) (by omega)).mono ?_
    rintro e' w12 ⟨rfl, hO, hg⟩
    try go_wp2_with fail
    refine hK.out _ _ trivial (fun _ => ?_)
    have hg2 : w11.grownBy w12 (some G) := ⟨hg.os, hg.tape, hg.output, hg.size, hg.block⟩
    have HO := hid hO
    have HB := hid (HB2.out.trans (below_of_grown hg2 (by omega) HB2.out.size))
    clear hK hO hg hg2 HO2 HB2
    (try simp only [Act.put, List.setIfInBounds_toArray, List.set_cons_zero, List.set_cons_succ])
    refine wpAnyH_done (by kernel_rfl) ?_ _
    have XB := hid (putF_B HDB.out s 2 (65535 - norm (tot (sumF (hedF p) n) (sumN (hedF p) n))))
    have k0 : putF (hedF p) s 2 (65535 - norm (tot (sumF (hedF p) n) (sumN (hedF p) n))) 0 = p.kind := by rw [putF_out (by omega), hed_0]
    replace k0 := hid k0
    go_wp2_with fail
    refine (fill_any HO.out XB.out (by omega) (.inr e6) hc8 (by omega)).mono ?_
    rintro e w13 ⟨rfl, hO, hg⟩
    have HO2 := hid hO
    have HB2 := hid (HB.out.trans (below_of_grown hg (by omega) HB.out.size))
    clear hO hg HO HB
    go_wp2_with fail
    refine bodyPost_ret (v := .tuple #[.slice (some ⟨G, 0, none⟩) n c8, .int .i64 0]) (by simp [results, Tryz.results108, go_sem]) rfl ?_
    rw [HE.out, ← HN.out, builtF_talk BN.out, ← HS.out, ← HN.out]
    exact ⟨_, rfl, OB.base HO2.out (by omega), HB2.out⟩
   ·have BN := hid (show p.kind = 2 ∧ p.bare = true from ⟨k2', bb⟩)
    replace k2' := hid k2'
    rw [bb] at y9
    go_wp2_with fail
    refine bodyPost_ret (v := .tuple #[.slice (some ⟨G, 0, none⟩) n c8, .int .i64 0]) (by simp [results, Tryz.results108, go_sem]) rfl ?_
    rw [HE.out, ← HN.out, builtF_bare BN.out]
    exact ⟨_, rfl, OB.base HO.out (by omega), HB.out⟩
  ·have BN := hid (show ¬ (p.kind = 2 ∧ p.bare = true) from fun e => by have := e.1; simp at k2; exact k2 this)
   have S0 := hid (re_i64 (sumat_any (some ⟨G, 0, none⟩) n c8 (hedF p) w10 HO.out.sl1 (by omega)) (show ((sumA (hedF p 0) : Nat) : Int) = ((sumA p.kind : Nat) : Int) from by rw [hed_0]))
   have sl := kind_num (hedF p)
   rw [hed_0] at sl
   obtain ⟨s, hs⟩ : ∃ s, s = sumA p.kind := ⟨_, rfl⟩
   have HS := hid hs
   rw [← hs] at S0 sl
   clear hs
   go_wp2_with fail
   refine S0.out.mono ?_
   rintro e w' ⟨rfl, rfl⟩
   clear y0 y9
   go_upto_region 13 with (fail)
   have CPs := fun W => cut_put (G := G) (n := n) (c := c8) s 2 (by omega) hc8 (by omega) s (s + 2) (s + 2) rfl rfl rfl W
   have qs : IntKind.i64.wrap ((s : Int) + 2) = (s : Int) + 2 := IntWalk.i64_in _ (by omega)
   have SM := hid (fun (W : World) (hW : By W (some ⟨G, 0, none⟩) n (hedF p)) => summed_any (some ⟨G, 0, none⟩) n c8 (hedF p) W hW HDB.out e6 hc8 e5)
   have OF := hid (fun (W : World) A' c' (hW : By W A' (sumN (hedF p) n) (sumF (hedF p) n)) => of_any A' _ c' _ W hW (sumF_B HDB.out n) (by unfold sumN; split <;> omega))
   refine wp_region_held_drew (S := fun _ => True) (by kernel_rfl) trivial (fun hHeld => ?_)
   refine tkq 0 hHeld ?_
   refine tkq 1 hHeld ?_
   refine tkq 2 hHeld ?_
   refine tkq 3 hHeld ?_
   refine tkq 4 hHeld ?_
   refine tkq 5 hHeld ?_
   refine tkq 6 hHeld ?_
   refine tkq 7 hHeld ?_
   refine only 8 rfl (by kernel_rfl) rfl (fun K hK => ?_)
   go_simp
   refine (SM.out _ (Ow.sl1 (Ow.drew HO.out))).mono ?_
   rintro e' w11 ⟨A2, c2, rfl, hS, hb11⟩
   try go_wp2_with fail
   refine hK.out _ _ trivial (fun _ => ?_)
   clear hK
   (try simp only [Act.put, List.setIfInBounds_toArray, List.set_cons_zero, List.set_cons_succ])
   have HO2 := hid (OB.keep_ (Ow.drew HO.out) hb11)
   have HB2 := hid (HB.out.drew.trans (hb11.mono HB.out.drew.size))
   have HS2 := hid hS
   clear hS hb11 HO HB
   refine only 9 rfl (by kernel_rfl) rfl (fun K hK => ?_)
   go_simp
   refine (OF.out _ A2 c2 HS2.out).mono ?_
   rintro e' w' ⟨rfl, m', rfl⟩
   try go_wp2_with fail
   refine hK.out _ _ trivial (fun _ => ?_)
   clear hK
   (try simp only [Act.put, List.setIfInBounds_toArray, List.set_cons_zero, List.set_cons_succ])
   refine only 10 rfl (by kernel_rfl) rfl (fun K hK => ?_)
   go_simp
   refine (put_anyW (Ow.drewN HO2.out m') s 2 2 (65535 - norm (tot (sumF (hedF p) n) (sumN (hedF p) n))) (by omega) (by omega)).mono ?_
   rintro e' w12 ⟨rfl, hO, hg⟩
   try go_wp2_with fail
   refine hK.out _ _ trivial (fun _ => ?_)
   have hg2 : w11.grownBy w12 (some G) := ⟨hg.os, hg.tape, hg.output, hg.size, hg.block⟩
   have HO := hid hO
   have HB := hid (HB2.out.trans (below_of_grown hg2 (by omega) HB2.out.size))
   clear hK hO hg hg2 HO2 HB2
   (try simp only [Act.put, List.setIfInBounds_toArray, List.set_cons_zero, List.set_cons_succ])
   refine wpAnyH_done (by kernel_rfl) ?_ _
   have XB := hid (putF_B HDB.out s 2 (65535 - norm (tot (sumF (hedF p) n) (sumN (hedF p) n))))
   have k0 : putF (hedF p) s 2 (65535 - norm (tot (sumF (hedF p) n) (sumN (hedF p) n))) 0 = p.kind := by rw [putF_out (by omega), hed_0]
   replace k0 := hid k0
   go_wp2_with fail
   refine (fill_any HO.out XB.out (by omega) (.inr e6) hc8 (by omega)).mono ?_
   rintro e w13 ⟨rfl, hO, hg⟩
   have HO2 := hid hO
   have HB2 := hid (HB.out.trans (below_of_grown hg (by omega) HB.out.size))
   clear hO hg HO HB
   go_wp2_with fail
   refine bodyPost_ret (v := .tuple #[.slice (some ⟨G, 0, none⟩) n c8, .int .i64 0]) (by simp [results, Tryz.results108, go_sem]) rfl ?_
   rw [HE.out, ← HN.out, builtF_talk BN.out, ← HS.out, ← HN.out]
   exact ⟨_, rfl, OB.base HO2.out (by omega), HB2.out⟩
 ·have HZ := hid (show z ≠ 0 from by simpa using z0)
  have HE := hid hz
  clear hz
  go_enter Tryz.func108, Tryz.ntmps108
  go_upto_region 1 with (fail)
  generalize (w.alloc (.cells #[.int .i64 p.kind, .int .i64 p.life, .int .i64 p.piece, .int .i64 p.src, .int .i64 p.dst, .int .i64 p.fp, .int .i64 p.tp, .int .i64 p.flags, .int .i64 p.label, .bool p.bare, .int .i64 p.code, .slice AO p.no cO, .slice AD p.nd cD] 39)) = w1 at *
  have lP : w.heap.size < w1.heap.size := CE.out.1
  have y0 := CE.out.2.1 0 _ rfl
  have y1 := CE.out.2.1 1 _ rfl
  have y2 := CE.out.2.1 2 _ rfl
  have y3 := CE.out.2.1 3 _ rfl
  have y4 := CE.out.2.1 4 _ rfl
  have y5 := CE.out.2.1 5 _ rfl
  have y6 := CE.out.2.1 6 _ rfl
  have y7 := CE.out.2.1 7 _ rfl
  have y8 := CE.out.2.1 8 _ rfl
  have y9 := CE.out.2.1 9 _ rfl
  have y10 := CE.out.2.1 10 _ rfl
  have y11 := CE.out.2.1 11 _ rfl
  have y12 := CE.out.2.1 12 _ rfl
  go_wp2_with fail
  refine (CK.out _).mono ?_
  rintro e w2 ⟨rfl, hb⟩
  have HC := hid (CE.out.below hb)
  have HB := hid (B0.out.trans (hb.mono B0.out.size))
  have lw : w1.heap.size ≤ w2.heap.size := hb.size
  clear hb CE B0 CK
  clear y0 y1 y2 y3 y4 y5 y6 y7 y8 y9 y10 y11 y12
  go_wp2_with fail
  refine bodyPost_ret (v := .tuple #[.slice none 0 0, .int .i64 z]) (by simp [results, Tryz.results108, go_sem]) rfl ?_
  rw [← HE.out]
  exact outd_no HZ.out HB.out
end Go.Proofs.YteapnfdpkjbfhaaGreat
