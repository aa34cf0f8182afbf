/- May a packet be built? -/
import Derived.Test.YtjljaecjnpmdoaaWirSmd
import Derived.BigQuiet
import Derived.Deep.RegionHeld3
import Derived.Deep.Cut
namespace Go.Proofs.Ytjljaecjnpmdoaa
set_option linter.unusedVariables false
set_option linter.unusedSimpArgs false
open Go.RowKit Go.ChangeShapes Go.WideShapes Go.ChangeAt

set_option maxHeartbeats 4000000 in
theorem length_any (p : Pk) (AO : Option Addr) (cO : Nat) (AD : Option Addr) (cD : Nat) (w : World) (h1 : p.no ≤ 1000000) (h2 : p.nd ≤ 1000000) :
    Calls Try.prog 63 #[.agg #[.int .i64 p.kind, .int .i64 p.life, .int .i64 p.piece, .int .i64 p.src, .int .i64 p.dst, .int .i64 p.fp, .int .i64 p.tp, .int .i64 p.flags, .int .i64 p.label, .bool p.bare, .int .i64 p.code, .slice AO p.no cO, .slice AD p.nd cD]] w fun e w' => e = .returned (.int .i64 (lenP p : Int)) ∧ Below w.heap.size w w' := by
  cases k3 : (p.kind == 3)
  · cases k2 : (p.kind == 2)
    · have HL : Hid ((lenP p : Int) = 24 + (p.no : Int) + p.nd) := hid (by unfold lenP; rw [if_neg (by simpa using k3), if_neg (by simpa using k2)]; omega)
      go_enter Try.func63, Try.ntmps63
      go_wp2_with fail
      go_ret
      exact ⟨ret_i64 HL.out.symm, (Below.refl _ _).alloc (Nat.le_refl _) _⟩
    · have HL : Hid ((lenP p : Int) = 24 + (p.nd : Int)) := hid (by unfold lenP; rw [if_neg (by simpa using k3), if_pos (by simpa using k2)]; omega)
      go_enter Try.func63, Try.ntmps63
      go_wp2_with fail
      go_ret
      exact ⟨ret_i64 HL.out.symm, (Below.refl _ _).alloc (Nat.le_refl _) _⟩
  · have HL : Hid ((lenP p : Int) = 20 + (p.nd : Int)) := hid (by unfold lenP; rw [if_pos (by simpa using k3)]; omega)
    go_enter Try.func63, Try.ntmps63
    go_wp2_with fail
    go_ret
    exact ⟨ret_i64 HL.out.symm, (Below.refl _ _).alloc (Nat.le_refl _) _⟩
set_option maxHeartbeats 4000000 in
theorem inbounds_any (p : Pk) (AO : Option Addr) (cO : Nat) (AD : Option Addr) (cD : Nat) (w : World) :
    Calls Try.prog 62 #[.agg #[.int .i64 p.kind, .int .i64 p.life, .int .i64 p.piece, .int .i64 p.src, .int .i64 p.dst, .int .i64 p.fp, .int .i64 p.tp, .int .i64 p.flags, .int .i64 p.label, .bool p.bare, .int .i64 p.code, .slice AO p.no cO, .slice AD p.nd cD]] w fun e w' => e = .returned (.bool (rangeB p)) ∧ Below w.heap.size w w' := by
  have R_life := hid (fun w => wwithin_any p.life 255 w)
  have R_piece := hid (fun w => wwithin_any p.piece 255 w)
  have R_src := hid (fun w => wwithin_any p.src 4294967295 w)
  have R_dst := hid (fun w => wwithin_any p.dst 4294967295 w)
  have R_code := hid (fun w => wwithin_any p.code 255 w)
  have R_fp := hid (fun w => wwithin_any p.fp 65535 w)
  have R_tp := hid (fun w => wwithin_any p.tp 65535 w)
  have R_label := hid (fun w => wwithin_any p.label 65535 w)
  have R_flags := hid (fun w => wwithin_any p.flags 15 w)
  cases r_life : inR p.life 255
  · rw [r_life] at R_life
    go_enter Try.func62, Try.ntmps62
    go_wp2_with fail
    refine (R_life.out _).mono ?_
    rintro e w' ⟨rfl, rfl⟩
    go_wp2_with fail
    go_ret
    exact ⟨ret_bool (by unfold rangeB; simp [r_life]), (Below.refl _ _).alloc (Nat.le_refl _) _⟩
  · rw [r_life] at R_life
    cases r_piece : inR p.piece 255
    · rw [r_piece] at R_piece
      go_enter Try.func62, Try.ntmps62
      go_wp2_with fail
      refine (R_life.out _).mono ?_
      rintro e w' ⟨rfl, rfl⟩
      go_wp2_with fail
      refine (R_piece.out _).mono ?_
      rintro e w' ⟨rfl, rfl⟩
      go_wp2_with fail
      go_ret
      exact ⟨ret_bool (by unfold rangeB; simp [r_life, r_piece]), (Below.refl _ _).alloc (Nat.le_refl _) _⟩
    · rw [r_piece] at R_piece
      cases r_src : inR p.src 4294967295
      · rw [r_src] at R_src
        go_enter Try.func62, Try.ntmps62
        go_wp2_with fail
        refine (R_life.out _).mono ?_
        rintro e w' ⟨rfl, rfl⟩
        go_wp2_with fail
        refine (R_piece.out _).mono ?_
        rintro e w' ⟨rfl, rfl⟩
        go_wp2_with fail
        refine (R_src.out _).mono ?_
        rintro e w' ⟨rfl, rfl⟩
        go_wp2_with fail
        go_ret
        exact ⟨ret_bool (by unfold rangeB; simp [r_life, r_piece, r_src]), (Below.refl _ _).alloc (Nat.le_refl _) _⟩
      · rw [r_src] at R_src
        cases r_dst : inR p.dst 4294967295
        · rw [r_dst] at R_dst
          go_enter Try.func62, Try.ntmps62
          go_wp2_with fail
          refine (R_life.out _).mono ?_
          rintro e w' ⟨rfl, rfl⟩
          go_wp2_with fail
          refine (R_piece.out _).mono ?_
          rintro e w' ⟨rfl, rfl⟩
          go_wp2_with fail
          refine (R_src.out _).mono ?_
          rintro e w' ⟨rfl, rfl⟩
          go_wp2_with fail
          refine (R_dst.out _).mono ?_
          rintro e w' ⟨rfl, rfl⟩
          go_wp2_with fail
          go_ret
          exact ⟨ret_bool (by unfold rangeB; simp [r_life, r_piece, r_src, r_dst]), (Below.refl _ _).alloc (Nat.le_refl _) _⟩
        · rw [r_dst] at R_dst
          cases k3 : (p.kind == 3)
          · have n3 : ¬ p.kind = 3 := by simpa using k3
            cases r_fp : inR p.fp 65535
            · rw [r_fp] at R_fp
              go_enter Try.func62, Try.ntmps62
              go_wp2_with fail
              refine (R_life.out _).mono ?_
              rintro e w' ⟨rfl, rfl⟩
              go_wp2_with fail
              refine (R_piece.out _).mono ?_
              rintro e w' ⟨rfl, rfl⟩
              go_wp2_with fail
              refine (R_src.out _).mono ?_
              rintro e w' ⟨rfl, rfl⟩
              go_wp2_with fail
              refine (R_dst.out _).mono ?_
              rintro e w' ⟨rfl, rfl⟩
              go_wp2_with fail
              refine (R_fp.out _).mono ?_
              rintro e w' ⟨rfl, rfl⟩
              go_wp2_with fail
              go_ret
              exact ⟨ret_bool (by unfold rangeB; simp [n3, r_life, r_piece, r_src, r_dst, r_fp]), (Below.refl _ _).alloc (Nat.le_refl _) _⟩
            · rw [r_fp] at R_fp
              cases r_tp : inR p.tp 65535
              · rw [r_tp] at R_tp
                go_enter Try.func62, Try.ntmps62
                go_wp2_with fail
                refine (R_life.out _).mono ?_
                rintro e w' ⟨rfl, rfl⟩
                go_wp2_with fail
                refine (R_piece.out _).mono ?_
                rintro e w' ⟨rfl, rfl⟩
                go_wp2_with fail
                refine (R_src.out _).mono ?_
                rintro e w' ⟨rfl, rfl⟩
                go_wp2_with fail
                refine (R_dst.out _).mono ?_
                rintro e w' ⟨rfl, rfl⟩
                go_wp2_with fail
                refine (R_fp.out _).mono ?_
                rintro e w' ⟨rfl, rfl⟩
                go_wp2_with fail
                refine (R_tp.out _).mono ?_
                rintro e w' ⟨rfl, rfl⟩
                go_wp2_with fail
                go_ret
                exact ⟨ret_bool (by unfold rangeB; simp [n3, r_life, r_piece, r_src, r_dst, r_fp, r_tp]), (Below.refl _ _).alloc (Nat.le_refl _) _⟩
              · rw [r_tp] at R_tp
                cases k2 : (p.kind == 2)
                · have n2 : ¬ p.kind = 2 := by simpa using k2
                  go_enter Try.func62, Try.ntmps62
                  go_wp2_with fail
                  refine (R_life.out _).mono ?_
                  rintro e w' ⟨rfl, rfl⟩
                  go_wp2_with fail
                  refine (R_piece.out _).mono ?_
                  rintro e w' ⟨rfl, rfl⟩
                  go_wp2_with fail
                  refine (R_src.out _).mono ?_
                  rintro e w' ⟨rfl, rfl⟩
                  go_wp2_with fail
                  refine (R_dst.out _).mono ?_
                  rintro e w' ⟨rfl, rfl⟩
                  go_wp2_with fail
                  refine (R_fp.out _).mono ?_
                  rintro e w' ⟨rfl, rfl⟩
                  go_wp2_with fail
                  refine (R_tp.out _).mono ?_
                  rintro e w' ⟨rfl, rfl⟩
                  go_wp2_with fail
                  refine (R_flags.out _).mono ?_
                  rintro e w' ⟨rfl, rfl⟩
                  go_wp2_with fail
                  go_ret
                  exact ⟨ret_bool (by unfold rangeB; simp [n3, n2, r_life, r_piece, r_src, r_dst, r_fp, r_tp]), (Below.refl _ _).alloc (Nat.le_refl _) _⟩
                · have n2 : Hid (p.kind = 2) := hid (by simpa using k2)
                  go_enter Try.func62, Try.ntmps62
                  go_wp2_with fail
                  refine (R_life.out _).mono ?_
                  rintro e w' ⟨rfl, rfl⟩
                  go_wp2_with fail
                  refine (R_piece.out _).mono ?_
                  rintro e w' ⟨rfl, rfl⟩
                  go_wp2_with fail
                  refine (R_src.out _).mono ?_
                  rintro e w' ⟨rfl, rfl⟩
                  go_wp2_with fail
                  refine (R_dst.out _).mono ?_
                  rintro e w' ⟨rfl, rfl⟩
                  go_wp2_with fail
                  refine (R_fp.out _).mono ?_
                  rintro e w' ⟨rfl, rfl⟩
                  go_wp2_with fail
                  refine (R_tp.out _).mono ?_
                  rintro e w' ⟨rfl, rfl⟩
                  go_wp2_with fail
                  refine (R_label.out _).mono ?_
                  rintro e w' ⟨rfl, rfl⟩
                  go_wp2_with fail
                  go_ret
                  exact ⟨ret_bool (by unfold rangeB; simp [n2.out, r_life, r_piece, r_src, r_dst, r_fp, r_tp]), (Below.refl _ _).alloc (Nat.le_refl _) _⟩
          · have n3 : Hid (p.kind = 3) := hid (by simpa using k3)
            go_enter Try.func62, Try.ntmps62
            go_wp2_with fail
            refine (R_life.out _).mono ?_
            rintro e w' ⟨rfl, rfl⟩
            go_wp2_with fail
            refine (R_piece.out _).mono ?_
            rintro e w' ⟨rfl, rfl⟩
            go_wp2_with fail
            refine (R_src.out _).mono ?_
            rintro e w' ⟨rfl, rfl⟩
            go_wp2_with fail
            refine (R_dst.out _).mono ?_
            rintro e w' ⟨rfl, rfl⟩
            go_wp2_with fail
            refine (R_code.out _).mono ?_
            rintro e w' ⟨rfl, rfl⟩
            go_wp2_with fail
            go_ret
            exact ⟨ret_bool (by unfold rangeB; simp [n3.out, r_life, r_piece, r_src, r_dst]), (Below.refl _ _).alloc (Nat.le_refl _) _⟩
set_option maxHeartbeats 4000000 in
theorem check_any (p : Pk) (AO : Option Addr) (cO : Nat) (AD : Option Addr) (cD : Nat) (w : World) (h1 : p.no ≤ 1000000) (h2 : p.nd ≤ 1000000) :
    Calls Try.prog 34 #[.agg #[.int .i64 p.kind, .int .i64 p.life, .int .i64 p.piece, .int .i64 p.src, .int .i64 p.dst, .int .i64 p.fp, .int .i64 p.tp, .int .i64 p.flags, .int .i64 p.label, .bool p.bare, .int .i64 p.code, .slice AO p.no cO, .slice AD p.nd cD]] w fun e w' => e = .returned (.int .i64 (buildE p)) ∧ Below w.heap.size w w' := by
  have IK := hid (fun w => iskind_any p.kind w)
  have IB := hid (fun w => inbounds_any p AO cO AD cD w)
  have LE := hid (fun w => length_any p AO cO AD cD w h1 h2)
  have CE := hid (Ce.made (w := w) (l := [.int .i64 p.kind, .int .i64 p.life, .int .i64 p.piece, .int .i64 p.src, .int .i64 p.dst, .int .i64 p.fp, .int .i64 p.tp, .int .i64 p.flags, .int .i64 p.label, .bool p.bare, .int .i64 p.code, .slice AO p.no cO, .slice AD p.nd cD]) (T := 26) (g := w.heap.size) rfl)
  have B0 := hid ((Below.refl w.heap.size w).alloc (Nat.le_refl _) (.cells #[.int .i64 p.kind, .int .i64 p.life, .int .i64 p.piece, .int .i64 p.src, .int .i64 p.dst, .int .i64 p.fp, .int .i64 p.tp, .int .i64 p.flags, .int .i64 p.label, .bool p.bare, .int .i64 p.code, .slice AO p.no cO, .slice AD p.nd cD] 26))
  simp only [List.toArray] at CE
  cases bk : isK p.kind
  · rw [bk] at IK
    go_enter Try.func34, Try.ntmps34
    go_upto_region 1 with (fail)
    generalize (w.alloc (.cells #[.int .i64 p.kind, .int .i64 p.life, .int .i64 p.piece, .int .i64 p.src, .int .i64 p.dst, .int .i64 p.fp, .int .i64 p.tp, .int .i64 p.flags, .int .i64 p.label, .bool p.bare, .int .i64 p.code, .slice AO p.no cO, .slice AD p.nd cD] 26)) = w1 at *
    have y0 := CE.out.2.1 0 _ rfl
    have y1 := CE.out.2.1 1 _ rfl
    have y2 := CE.out.2.1 2 _ rfl
    have y3 := CE.out.2.1 3 _ rfl
    have y4 := CE.out.2.1 4 _ rfl
    have y5 := CE.out.2.1 5 _ rfl
    have y6 := CE.out.2.1 6 _ rfl
    have y7 := CE.out.2.1 7 _ rfl
    have y8 := CE.out.2.1 8 _ rfl
    have y9 := CE.out.2.1 9 _ rfl
    have y10 := CE.out.2.1 10 _ rfl
    have y11 := CE.out.2.1 11 _ rfl
    have y12 := CE.out.2.1 12 _ rfl
    go_wp2_with fail
    refine (IK.out _).mono ?_
    rintro e w' ⟨rfl, rfl⟩
    go_wp2_with fail
    go_ret
    exact ⟨ret_i64 (show (2 : Int) = buildE p from by unfold buildE; rw [if_pos bk]), B0.out⟩
  · rw [bk] at IK
    cases br : rangeB p
    · rw [br] at IB
      go_enter Try.func34, Try.ntmps34
      go_upto_region 1 with (fail)
      generalize (w.alloc (.cells #[.int .i64 p.kind, .int .i64 p.life, .int .i64 p.piece, .int .i64 p.src, .int .i64 p.dst, .int .i64 p.fp, .int .i64 p.tp, .int .i64 p.flags, .int .i64 p.label, .bool p.bare, .int .i64 p.code, .slice AO p.no cO, .slice AD p.nd cD] 26)) = w1 at *
      have y0 := CE.out.2.1 0 _ rfl
      have y1 := CE.out.2.1 1 _ rfl
      have y2 := CE.out.2.1 2 _ rfl
      have y3 := CE.out.2.1 3 _ rfl
      have y4 := CE.out.2.1 4 _ rfl
      have y5 := CE.out.2.1 5 _ rfl
      have y6 := CE.out.2.1 6 _ rfl
      have y7 := CE.out.2.1 7 _ rfl
      have y8 := CE.out.2.1 8 _ rfl
      have y9 := CE.out.2.1 9 _ rfl
      have y10 := CE.out.2.1 10 _ rfl
      have y11 := CE.out.2.1 11 _ rfl
      have y12 := CE.out.2.1 12 _ rfl
      go_wp2_with fail
      refine (IK.out _).mono ?_
      rintro e w' ⟨rfl, rfl⟩
      go_wp2_with fail
      refine (IB.out _).mono ?_
      rintro e w2 ⟨rfl, hb⟩
      have CE2 := hid (CE.out.below hb)
      have B2 := hid (B0.out.trans (hb.mono B0.out.size))
      clear y0 y1 y2 y3 y4 y5 y6 y7 y8 y9 y10 y11 y12 hb CE
      have y0 := CE2.out.2.1 0 _ rfl
      have y1 := CE2.out.2.1 1 _ rfl
      have y2 := CE2.out.2.1 2 _ rfl
      have y3 := CE2.out.2.1 3 _ rfl
      have y4 := CE2.out.2.1 4 _ rfl
      have y5 := CE2.out.2.1 5 _ rfl
      have y6 := CE2.out.2.1 6 _ rfl
      have y7 := CE2.out.2.1 7 _ rfl
      have y8 := CE2.out.2.1 8 _ rfl
      have y9 := CE2.out.2.1 9 _ rfl
      have y10 := CE2.out.2.1 10 _ rfl
      have y11 := CE2.out.2.1 11 _ rfl
      have y12 := CE2.out.2.1 12 _ rfl
      go_wp2_with fail
      go_ret
      exact ⟨ret_i64 (show (14 : Int) = buildE p from by unfold buildE; rw [if_neg (by rw [bk]; decide)]; rw [if_pos br]), B2.out⟩
    · rw [br] at IB
      cases k1 : (p.kind == 1)
      · have n5 : ¬ (p.kind = 1 ∧ 40 < p.no) := fun e => by have := e.1; simp at k1; exact k1 this
        replace n5 := hid n5
        cases k3 : (p.kind == 3)
        · have n3 : ¬ p.kind = 3 := by simpa using k3
          have N3 := hid (show ¬ (p.kind = 3 ∧ p.nd < 24) from fun e => n3 e.1)
          cases l15 : decide ((1500 : Int) < (lenP p : Int))
          · go_enter Try.func34, Try.ntmps34
            go_upto_region 1 with (fail)
            generalize (w.alloc (.cells #[.int .i64 p.kind, .int .i64 p.life, .int .i64 p.piece, .int .i64 p.src, .int .i64 p.dst, .int .i64 p.fp, .int .i64 p.tp, .int .i64 p.flags, .int .i64 p.label, .bool p.bare, .int .i64 p.code, .slice AO p.no cO, .slice AD p.nd cD] 26)) = w1 at *
            have y0 := CE.out.2.1 0 _ rfl
            have y1 := CE.out.2.1 1 _ rfl
            have y2 := CE.out.2.1 2 _ rfl
            have y3 := CE.out.2.1 3 _ rfl
            have y4 := CE.out.2.1 4 _ rfl
            have y5 := CE.out.2.1 5 _ rfl
            have y6 := CE.out.2.1 6 _ rfl
            have y7 := CE.out.2.1 7 _ rfl
            have y8 := CE.out.2.1 8 _ rfl
            have y9 := CE.out.2.1 9 _ rfl
            have y10 := CE.out.2.1 10 _ rfl
            have y11 := CE.out.2.1 11 _ rfl
            have y12 := CE.out.2.1 12 _ rfl
            go_wp2_with fail
            refine (IK.out _).mono ?_
            rintro e w' ⟨rfl, rfl⟩
            go_wp2_with fail
            refine (IB.out _).mono ?_
            rintro e w2 ⟨rfl, hb⟩
            have CE2 := hid (CE.out.below hb)
            have B2 := hid (B0.out.trans (hb.mono B0.out.size))
            clear y0 y1 y2 y3 y4 y5 y6 y7 y8 y9 y10 y11 y12 hb CE
            have y0 := CE2.out.2.1 0 _ rfl
            have y1 := CE2.out.2.1 1 _ rfl
            have y2 := CE2.out.2.1 2 _ rfl
            have y3 := CE2.out.2.1 3 _ rfl
            have y4 := CE2.out.2.1 4 _ rfl
            have y5 := CE2.out.2.1 5 _ rfl
            have y6 := CE2.out.2.1 6 _ rfl
            have y7 := CE2.out.2.1 7 _ rfl
            have y8 := CE2.out.2.1 8 _ rfl
            have y9 := CE2.out.2.1 9 _ rfl
            have y10 := CE2.out.2.1 10 _ rfl
            have y11 := CE2.out.2.1 11 _ rfl
            have y12 := CE2.out.2.1 12 _ rfl
            go_wp2_with fail
            refine (LE.out _).mono ?_
            rintro e w3 ⟨rfl, hb⟩
            have B3 := hid (B2.out.trans (hb.mono B2.out.size))
            clear y0 y1 y2 y3 y4 y5 y6 y7 y8 y9 y10 y11 y12 hb
            go_wp2_with fail
            go_ret
            exact ⟨ret_i64 (show (0 : Int) = buildE p from by unfold buildE; rw [if_neg (by rw [bk]; decide)]; rw [if_neg (by rw [br]; decide)]; rw [if_neg n5.out, if_neg (by rintro (e | e); (exact N3.out e); (simp at l15; omega))]), B3.out⟩
          · go_enter Try.func34, Try.ntmps34
            go_upto_region 1 with (fail)
            generalize (w.alloc (.cells #[.int .i64 p.kind, .int .i64 p.life, .int .i64 p.piece, .int .i64 p.src, .int .i64 p.dst, .int .i64 p.fp, .int .i64 p.tp, .int .i64 p.flags, .int .i64 p.label, .bool p.bare, .int .i64 p.code, .slice AO p.no cO, .slice AD p.nd cD] 26)) = w1 at *
            have y0 := CE.out.2.1 0 _ rfl
            have y1 := CE.out.2.1 1 _ rfl
            have y2 := CE.out.2.1 2 _ rfl
            have y3 := CE.out.2.1 3 _ rfl
            have y4 := CE.out.2.1 4 _ rfl
            have y5 := CE.out.2.1 5 _ rfl
            have y6 := CE.out.2.1 6 _ rfl
            have y7 := CE.out.2.1 7 _ rfl
            have y8 := CE.out.2.1 8 _ rfl
            have y9 := CE.out.2.1 9 _ rfl
            have y10 := CE.out.2.1 10 _ rfl
            have y11 := CE.out.2.1 11 _ rfl
            have y12 := CE.out.2.1 12 _ rfl
            go_wp2_with fail
            refine (IK.out _).mono ?_
            rintro e w' ⟨rfl, rfl⟩
            go_wp2_with fail
            refine (IB.out _).mono ?_
            rintro e w2 ⟨rfl, hb⟩
            have CE2 := hid (CE.out.below hb)
            have B2 := hid (B0.out.trans (hb.mono B0.out.size))
            clear y0 y1 y2 y3 y4 y5 y6 y7 y8 y9 y10 y11 y12 hb CE
            have y0 := CE2.out.2.1 0 _ rfl
            have y1 := CE2.out.2.1 1 _ rfl
            have y2 := CE2.out.2.1 2 _ rfl
            have y3 := CE2.out.2.1 3 _ rfl
            have y4 := CE2.out.2.1 4 _ rfl
            have y5 := CE2.out.2.1 5 _ rfl
            have y6 := CE2.out.2.1 6 _ rfl
            have y7 := CE2.out.2.1 7 _ rfl
            have y8 := CE2.out.2.1 8 _ rfl
            have y9 := CE2.out.2.1 9 _ rfl
            have y10 := CE2.out.2.1 10 _ rfl
            have y11 := CE2.out.2.1 11 _ rfl
            have y12 := CE2.out.2.1 12 _ rfl
            go_wp2_with fail
            refine (LE.out _).mono ?_
            rintro e w3 ⟨rfl, hb⟩
            have B3 := hid (B2.out.trans (hb.mono B2.out.size))
            clear y0 y1 y2 y3 y4 y5 y6 y7 y8 y9 y10 y11 y12 hb
            go_wp2_with fail
            go_ret
            exact ⟨ret_i64 (show (3 : Int) = buildE p from by unfold buildE; rw [if_neg (by rw [bk]; decide)]; rw [if_neg (by rw [br]; decide)]; rw [if_neg n5.out, if_pos (.inr (by simp at l15; omega))]), B3.out⟩
        · have n3 : Hid (p.kind = 3) := hid (by simpa using k3)
          cases d24 : decide ((p.nd : Int) < 24)
          · have N3 := hid (show ¬ (p.kind = 3 ∧ p.nd < 24) from fun e => by have := e.2; simp at d24; omega)
            cases l15 : decide ((1500 : Int) < (lenP p : Int))
            · go_enter Try.func34, Try.ntmps34
              go_upto_region 1 with (fail)
              generalize (w.alloc (.cells #[.int .i64 p.kind, .int .i64 p.life, .int .i64 p.piece, .int .i64 p.src, .int .i64 p.dst, .int .i64 p.fp, .int .i64 p.tp, .int .i64 p.flags, .int .i64 p.label, .bool p.bare, .int .i64 p.code, .slice AO p.no cO, .slice AD p.nd cD] 26)) = w1 at *
              have y0 := CE.out.2.1 0 _ rfl
              have y1 := CE.out.2.1 1 _ rfl
              have y2 := CE.out.2.1 2 _ rfl
              have y3 := CE.out.2.1 3 _ rfl
              have y4 := CE.out.2.1 4 _ rfl
              have y5 := CE.out.2.1 5 _ rfl
              have y6 := CE.out.2.1 6 _ rfl
              have y7 := CE.out.2.1 7 _ rfl
              have y8 := CE.out.2.1 8 _ rfl
              have y9 := CE.out.2.1 9 _ rfl
              have y10 := CE.out.2.1 10 _ rfl
              have y11 := CE.out.2.1 11 _ rfl
              have y12 := CE.out.2.1 12 _ rfl
              go_wp2_with fail
              refine (IK.out _).mono ?_
              rintro e w' ⟨rfl, rfl⟩
              go_wp2_with fail
              refine (IB.out _).mono ?_
              rintro e w2 ⟨rfl, hb⟩
              have CE2 := hid (CE.out.below hb)
              have B2 := hid (B0.out.trans (hb.mono B0.out.size))
              clear y0 y1 y2 y3 y4 y5 y6 y7 y8 y9 y10 y11 y12 hb CE
              have y0 := CE2.out.2.1 0 _ rfl
              have y1 := CE2.out.2.1 1 _ rfl
              have y2 := CE2.out.2.1 2 _ rfl
              have y3 := CE2.out.2.1 3 _ rfl
              have y4 := CE2.out.2.1 4 _ rfl
              have y5 := CE2.out.2.1 5 _ rfl
              have y6 := CE2.out.2.1 6 _ rfl
              have y7 := CE2.out.2.1 7 _ rfl
              have y8 := CE2.out.2.1 8 _ rfl
              have y9 := CE2.out.2.1 9 _ rfl
              have y10 := CE2.out.2.1 10 _ rfl
              have y11 := CE2.out.2.1 11 _ rfl
              have y12 := CE2.out.2.1 12 _ rfl
              go_wp2_with fail
              refine (LE.out _).mono ?_
              rintro e w3 ⟨rfl, hb⟩
              have B3 := hid (B2.out.trans (hb.mono B2.out.size))
              clear y0 y1 y2 y3 y4 y5 y6 y7 y8 y9 y10 y11 y12 hb
              go_wp2_with fail
              go_ret
              exact ⟨ret_i64 (show (0 : Int) = buildE p from by unfold buildE; rw [if_neg (by rw [bk]; decide)]; rw [if_neg (by rw [br]; decide)]; rw [if_neg n5.out, if_neg (by rintro (e | e); (exact N3.out e); (simp at l15; omega))]), B3.out⟩
            · go_enter Try.func34, Try.ntmps34
              go_upto_region 1 with (fail)
              generalize (w.alloc (.cells #[.int .i64 p.kind, .int .i64 p.life, .int .i64 p.piece, .int .i64 p.src, .int .i64 p.dst, .int .i64 p.fp, .int .i64 p.tp, .int .i64 p.flags, .int .i64 p.label, .bool p.bare, .int .i64 p.code, .slice AO p.no cO, .slice AD p.nd cD] 26)) = w1 at *
              have y0 := CE.out.2.1 0 _ rfl
              have y1 := CE.out.2.1 1 _ rfl
              have y2 := CE.out.2.1 2 _ rfl
              have y3 := CE.out.2.1 3 _ rfl
              have y4 := CE.out.2.1 4 _ rfl
              have y5 := CE.out.2.1 5 _ rfl
              have y6 := CE.out.2.1 6 _ rfl
              have y7 := CE.out.2.1 7 _ rfl
              have y8 := CE.out.2.1 8 _ rfl
              have y9 := CE.out.2.1 9 _ rfl
              have y10 := CE.out.2.1 10 _ rfl
              have y11 := CE.out.2.1 11 _ rfl
              have y12 := CE.out.2.1 12 _ rfl
              go_wp2_with fail
              refine (IK.out _).mono ?_
              rintro e w' ⟨rfl, rfl⟩
              go_wp2_with fail
              refine (IB.out _).mono ?_
              rintro e w2 ⟨rfl, hb⟩
              have CE2 := hid (CE.out.below hb)
              have B2 := hid (B0.out.trans (hb.mono B0.out.size))
              clear y0 y1 y2 y3 y4 y5 y6 y7 y8 y9 y10 y11 y12 hb CE
              have y0 := CE2.out.2.1 0 _ rfl
              have y1 := CE2.out.2.1 1 _ rfl
              have y2 := CE2.out.2.1 2 _ rfl
              have y3 := CE2.out.2.1 3 _ rfl
              have y4 := CE2.out.2.1 4 _ rfl
              have y5 := CE2.out.2.1 5 _ rfl
              have y6 := CE2.out.2.1 6 _ rfl
              have y7 := CE2.out.2.1 7 _ rfl
              have y8 := CE2.out.2.1 8 _ rfl
              have y9 := CE2.out.2.1 9 _ rfl
              have y10 := CE2.out.2.1 10 _ rfl
              have y11 := CE2.out.2.1 11 _ rfl
              have y12 := CE2.out.2.1 12 _ rfl
              go_wp2_with fail
              refine (LE.out _).mono ?_
              rintro e w3 ⟨rfl, hb⟩
              have B3 := hid (B2.out.trans (hb.mono B2.out.size))
              clear y0 y1 y2 y3 y4 y5 y6 y7 y8 y9 y10 y11 y12 hb
              go_wp2_with fail
              go_ret
              exact ⟨ret_i64 (show (3 : Int) = buildE p from by unfold buildE; rw [if_neg (by rw [bk]; decide)]; rw [if_neg (by rw [br]; decide)]; rw [if_neg n5.out, if_pos (.inr (by simp at l15; omega))]), B3.out⟩
          · go_enter Try.func34, Try.ntmps34
            go_upto_region 1 with (fail)
            generalize (w.alloc (.cells #[.int .i64 p.kind, .int .i64 p.life, .int .i64 p.piece, .int .i64 p.src, .int .i64 p.dst, .int .i64 p.fp, .int .i64 p.tp, .int .i64 p.flags, .int .i64 p.label, .bool p.bare, .int .i64 p.code, .slice AO p.no cO, .slice AD p.nd cD] 26)) = w1 at *
            have y0 := CE.out.2.1 0 _ rfl
            have y1 := CE.out.2.1 1 _ rfl
            have y2 := CE.out.2.1 2 _ rfl
            have y3 := CE.out.2.1 3 _ rfl
            have y4 := CE.out.2.1 4 _ rfl
            have y5 := CE.out.2.1 5 _ rfl
            have y6 := CE.out.2.1 6 _ rfl
            have y7 := CE.out.2.1 7 _ rfl
            have y8 := CE.out.2.1 8 _ rfl
            have y9 := CE.out.2.1 9 _ rfl
            have y10 := CE.out.2.1 10 _ rfl
            have y11 := CE.out.2.1 11 _ rfl
            have y12 := CE.out.2.1 12 _ rfl
            go_wp2_with fail
            refine (IK.out _).mono ?_
            rintro e w' ⟨rfl, rfl⟩
            go_wp2_with fail
            refine (IB.out _).mono ?_
            rintro e w2 ⟨rfl, hb⟩
            have CE2 := hid (CE.out.below hb)
            have B2 := hid (B0.out.trans (hb.mono B0.out.size))
            clear y0 y1 y2 y3 y4 y5 y6 y7 y8 y9 y10 y11 y12 hb CE
            have y0 := CE2.out.2.1 0 _ rfl
            have y1 := CE2.out.2.1 1 _ rfl
            have y2 := CE2.out.2.1 2 _ rfl
            have y3 := CE2.out.2.1 3 _ rfl
            have y4 := CE2.out.2.1 4 _ rfl
            have y5 := CE2.out.2.1 5 _ rfl
            have y6 := CE2.out.2.1 6 _ rfl
            have y7 := CE2.out.2.1 7 _ rfl
            have y8 := CE2.out.2.1 8 _ rfl
            have y9 := CE2.out.2.1 9 _ rfl
            have y10 := CE2.out.2.1 10 _ rfl
            have y11 := CE2.out.2.1 11 _ rfl
            have y12 := CE2.out.2.1 12 _ rfl
            go_wp2_with fail
            go_ret
            exact ⟨ret_i64 (show (3 : Int) = buildE p from by unfold buildE; rw [if_neg (by rw [bk]; decide)]; rw [if_neg (by rw [br]; decide)]; rw [if_neg n5.out, if_pos (.inl ⟨n3.out, by simp at d24; omega⟩)]), B2.out⟩
      · have n1 : Hid (p.kind = 1) := hid (by simpa using k1)
        cases d40 : decide ((40 : Int) < (p.no : Int))
        · have n5 : ¬ (p.kind = 1 ∧ 40 < p.no) := fun e => by have := e.2; simp at d40; omega
          replace n5 := hid n5
          cases k3 : (p.kind == 3)
          · have n3 : ¬ p.kind = 3 := by simpa using k3
            have N3 := hid (show ¬ (p.kind = 3 ∧ p.nd < 24) from fun e => n3 e.1)
            cases l15 : decide ((1500 : Int) < (lenP p : Int))
            · go_enter Try.func34, Try.ntmps34
              go_upto_region 1 with (fail)
              generalize (w.alloc (.cells #[.int .i64 p.kind, .int .i64 p.life, .int .i64 p.piece, .int .i64 p.src, .int .i64 p.dst, .int .i64 p.fp, .int .i64 p.tp, .int .i64 p.flags, .int .i64 p.label, .bool p.bare, .int .i64 p.code, .slice AO p.no cO, .slice AD p.nd cD] 26)) = w1 at *
              have y0 := CE.out.2.1 0 _ rfl
              have y1 := CE.out.2.1 1 _ rfl
              have y2 := CE.out.2.1 2 _ rfl
              have y3 := CE.out.2.1 3 _ rfl
              have y4 := CE.out.2.1 4 _ rfl
              have y5 := CE.out.2.1 5 _ rfl
              have y6 := CE.out.2.1 6 _ rfl
              have y7 := CE.out.2.1 7 _ rfl
              have y8 := CE.out.2.1 8 _ rfl
              have y9 := CE.out.2.1 9 _ rfl
              have y10 := CE.out.2.1 10 _ rfl
              have y11 := CE.out.2.1 11 _ rfl
              have y12 := CE.out.2.1 12 _ rfl
              go_wp2_with fail
              refine (IK.out _).mono ?_
              rintro e w' ⟨rfl, rfl⟩
              go_wp2_with fail
              refine (IB.out _).mono ?_
              rintro e w2 ⟨rfl, hb⟩
              have CE2 := hid (CE.out.below hb)
              have B2 := hid (B0.out.trans (hb.mono B0.out.size))
              clear y0 y1 y2 y3 y4 y5 y6 y7 y8 y9 y10 y11 y12 hb CE
              have y0 := CE2.out.2.1 0 _ rfl
              have y1 := CE2.out.2.1 1 _ rfl
              have y2 := CE2.out.2.1 2 _ rfl
              have y3 := CE2.out.2.1 3 _ rfl
              have y4 := CE2.out.2.1 4 _ rfl
              have y5 := CE2.out.2.1 5 _ rfl
              have y6 := CE2.out.2.1 6 _ rfl
              have y7 := CE2.out.2.1 7 _ rfl
              have y8 := CE2.out.2.1 8 _ rfl
              have y9 := CE2.out.2.1 9 _ rfl
              have y10 := CE2.out.2.1 10 _ rfl
              have y11 := CE2.out.2.1 11 _ rfl
              have y12 := CE2.out.2.1 12 _ rfl
              go_wp2_with fail
              refine (LE.out _).mono ?_
              rintro e w3 ⟨rfl, hb⟩
              have B3 := hid (B2.out.trans (hb.mono B2.out.size))
              clear y0 y1 y2 y3 y4 y5 y6 y7 y8 y9 y10 y11 y12 hb
              go_wp2_with fail
              go_ret
              exact ⟨ret_i64 (show (0 : Int) = buildE p from by unfold buildE; rw [if_neg (by rw [bk]; decide)]; rw [if_neg (by rw [br]; decide)]; rw [if_neg n5.out, if_neg (by rintro (e | e); (exact N3.out e); (simp at l15; omega))]), B3.out⟩
            · go_enter Try.func34, Try.ntmps34
              go_upto_region 1 with (fail)
              generalize (w.alloc (.cells #[.int .i64 p.kind, .int .i64 p.life, .int .i64 p.piece, .int .i64 p.src, .int .i64 p.dst, .int .i64 p.fp, .int .i64 p.tp, .int .i64 p.flags, .int .i64 p.label, .bool p.bare, .int .i64 p.code, .slice AO p.no cO, .slice AD p.nd cD] 26)) = w1 at *
              have y0 := CE.out.2.1 0 _ rfl
              have y1 := CE.out.2.1 1 _ rfl
              have y2 := CE.out.2.1 2 _ rfl
              have y3 := CE.out.2.1 3 _ rfl
              have y4 := CE.out.2.1 4 _ rfl
              have y5 := CE.out.2.1 5 _ rfl
              have y6 := CE.out.2.1 6 _ rfl
              have y7 := CE.out.2.1 7 _ rfl
              have y8 := CE.out.2.1 8 _ rfl
              have y9 := CE.out.2.1 9 _ rfl
              have y10 := CE.out.2.1 10 _ rfl
              have y11 := CE.out.2.1 11 _ rfl
              have y12 := CE.out.2.1 12 _ rfl
              go_wp2_with fail
              refine (IK.out _).mono ?_
              rintro e w' ⟨rfl, rfl⟩
              go_wp2_with fail
              refine (IB.out _).mono ?_
              rintro e w2 ⟨rfl, hb⟩
              have CE2 := hid (CE.out.below hb)
              have B2 := hid (B0.out.trans (hb.mono B0.out.size))
              clear y0 y1 y2 y3 y4 y5 y6 y7 y8 y9 y10 y11 y12 hb CE
              have y0 := CE2.out.2.1 0 _ rfl
              have y1 := CE2.out.2.1 1 _ rfl
              have y2 := CE2.out.2.1 2 _ rfl
              have y3 := CE2.out.2.1 3 _ rfl
              have y4 := CE2.out.2.1 4 _ rfl
              have y5 := CE2.out.2.1 5 _ rfl
              have y6 := CE2.out.2.1 6 _ rfl
              have y7 := CE2.out.2.1 7 _ rfl
              have y8 := CE2.out.2.1 8 _ rfl
              have y9 := CE2.out.2.1 9 _ rfl
              have y10 := CE2.out.2.1 10 _ rfl
              have y11 := CE2.out.2.1 11 _ rfl
              have y12 := CE2.out.2.1 12 _ rfl
              go_wp2_with fail
              refine (LE.out _).mono ?_
              rintro e w3 ⟨rfl, hb⟩
              have B3 := hid (B2.out.trans (hb.mono B2.out.size))
              clear y0 y1 y2 y3 y4 y5 y6 y7 y8 y9 y10 y11 y12 hb
              go_wp2_with fail
              go_ret
              exact ⟨ret_i64 (show (3 : Int) = buildE p from by unfold buildE; rw [if_neg (by rw [bk]; decide)]; rw [if_neg (by rw [br]; decide)]; rw [if_neg n5.out, if_pos (.inr (by simp at l15; omega))]), B3.out⟩
          · have n3 : Hid (p.kind = 3) := hid (by simpa using k3)
            cases d24 : decide ((p.nd : Int) < 24)
            · have N3 := hid (show ¬ (p.kind = 3 ∧ p.nd < 24) from fun e => by have := e.2; simp at d24; omega)
              cases l15 : decide ((1500 : Int) < (lenP p : Int))
              · go_enter Try.func34, Try.ntmps34
                go_upto_region 1 with (fail)
                generalize (w.alloc (.cells #[.int .i64 p.kind, .int .i64 p.life, .int .i64 p.piece, .int .i64 p.src, .int .i64 p.dst, .int .i64 p.fp, .int .i64 p.tp, .int .i64 p.flags, .int .i64 p.label, .bool p.bare, .int .i64 p.code, .slice AO p.no cO, .slice AD p.nd cD] 26)) = w1 at *
                have y0 := CE.out.2.1 0 _ rfl
                have y1 := CE.out.2.1 1 _ rfl
                have y2 := CE.out.2.1 2 _ rfl
                have y3 := CE.out.2.1 3 _ rfl
                have y4 := CE.out.2.1 4 _ rfl
                have y5 := CE.out.2.1 5 _ rfl
                have y6 := CE.out.2.1 6 _ rfl
                have y7 := CE.out.2.1 7 _ rfl
                have y8 := CE.out.2.1 8 _ rfl
                have y9 := CE.out.2.1 9 _ rfl
                have y10 := CE.out.2.1 10 _ rfl
                have y11 := CE.out.2.1 11 _ rfl
                have y12 := CE.out.2.1 12 _ rfl
                go_wp2_with fail
                refine (IK.out _).mono ?_
                rintro e w' ⟨rfl, rfl⟩
                go_wp2_with fail
                refine (IB.out _).mono ?_
                rintro e w2 ⟨rfl, hb⟩
                have CE2 := hid (CE.out.below hb)
                have B2 := hid (B0.out.trans (hb.mono B0.out.size))
                clear y0 y1 y2 y3 y4 y5 y6 y7 y8 y9 y10 y11 y12 hb CE
                have y0 := CE2.out.2.1 0 _ rfl
                have y1 := CE2.out.2.1 1 _ rfl
                have y2 := CE2.out.2.1 2 _ rfl
                have y3 := CE2.out.2.1 3 _ rfl
                have y4 := CE2.out.2.1 4 _ rfl
                have y5 := CE2.out.2.1 5 _ rfl
                have y6 := CE2.out.2.1 6 _ rfl
                have y7 := CE2.out.2.1 7 _ rfl
                have y8 := CE2.out.2.1 8 _ rfl
                have y9 := CE2.out.2.1 9 _ rfl
                have y10 := CE2.out.2.1 10 _ rfl
                have y11 := CE2.out.2.1 11 _ rfl
                have y12 := CE2.out.2.1 12 _ rfl
                go_wp2_with fail
                refine (LE.out _).mono ?_
                rintro e w3 ⟨rfl, hb⟩
                have B3 := hid (B2.out.trans (hb.mono B2.out.size))
                clear y0 y1 y2 y3 y4 y5 y6 y7 y8 y9 y10 y11 y12 hb
                go_wp2_with fail
                go_ret
                exact ⟨ret_i64 (show (0 : Int) = buildE p from by unfold buildE; rw [if_neg (by rw [bk]; decide)]; rw [if_neg (by rw [br]; decide)]; rw [if_neg n5.out, if_neg (by rintro (e | e); (exact N3.out e); (simp at l15; omega))]), B3.out⟩
              · go_enter Try.func34, Try.ntmps34
                go_upto_region 1 with (fail)
                generalize (w.alloc (.cells #[.int .i64 p.kind, .int .i64 p.life, .int .i64 p.piece, .int .i64 p.src, .int .i64 p.dst, .int .i64 p.fp, .int .i64 p.tp, .int .i64 p.flags, .int .i64 p.label, .bool p.bare, .int .i64 p.code, .slice AO p.no cO, .slice AD p.nd cD] 26)) = w1 at *
                have y0 := CE.out.2.1 0 _ rfl
                have y1 := CE.out.2.1 1 _ rfl
                have y2 := CE.out.2.1 2 _ rfl
                have y3 := CE.out.2.1 3 _ rfl
                have y4 := CE.out.2.1 4 _ rfl
                have y5 := CE.out.2.1 5 _ rfl
                have y6 := CE.out.2.1 6 _ rfl
                have y7 := CE.out.2.1 7 _ rfl
                have y8 := CE.out.2.1 8 _ rfl
                have y9 := CE.out.2.1 9 _ rfl
                have y10 := CE.out.2.1 10 _ rfl
                have y11 := CE.out.2.1 11 _ rfl
                have y12 := CE.out.2.1 12 _ rfl
                go_wp2_with fail
                refine (IK.out _).mono ?_
                rintro e w' ⟨rfl, rfl⟩
                go_wp2_with fail
                refine (IB.out _).mono ?_
                rintro e w2 ⟨rfl, hb⟩
                have CE2 := hid (CE.out.below hb)
                have B2 := hid (B0.out.trans (hb.mono B0.out.size))
                clear y0 y1 y2 y3 y4 y5 y6 y7 y8 y9 y10 y11 y12 hb CE
                have y0 := CE2.out.2.1 0 _ rfl
                have y1 := CE2.out.2.1 1 _ rfl
                have y2 := CE2.out.2.1 2 _ rfl
                have y3 := CE2.out.2.1 3 _ rfl
                have y4 := CE2.out.2.1 4 _ rfl
                have y5 := CE2.out.2.1 5 _ rfl
                have y6 := CE2.out.2.1 6 _ rfl
                have y7 := CE2.out.2.1 7 _ rfl
                have y8 := CE2.out.2.1 8 _ rfl
                have y9 := CE2.out.2.1 9 _ rfl
                have y10 := CE2.out.2.1 10 _ rfl
                have y11 := CE2.out.2.1 11 _ rfl
                have y12 := CE2.out.2.1 12 _ rfl
                go_wp2_with fail
                refine (LE.out _).mono ?_
                rintro e w3 ⟨rfl, hb⟩
                have B3 := hid (B2.out.trans (hb.mono B2.out.size))
                clear y0 y1 y2 y3 y4 y5 y6 y7 y8 y9 y10 y11 y12 hb
                go_wp2_with fail
                go_ret
                exact ⟨ret_i64 (show (3 : Int) = buildE p from by unfold buildE; rw [if_neg (by rw [bk]; decide)]; rw [if_neg (by rw [br]; decide)]; rw [if_neg n5.out, if_pos (.inr (by simp at l15; omega))]), B3.out⟩
            · go_enter Try.func34, Try.ntmps34
              go_upto_region 1 with (fail)
              generalize (w.alloc (.cells #[.int .i64 p.kind, .int .i64 p.life, .int .i64 p.piece, .int .i64 p.src, .int .i64 p.dst, .int .i64 p.fp, .int .i64 p.tp, .int .i64 p.flags, .int .i64 p.label, .bool p.bare, .int .i64 p.code, .slice AO p.no cO, .slice AD p.nd cD] 26)) = w1 at *
              have y0 := CE.out.2.1 0 _ rfl
              have y1 := CE.out.2.1 1 _ rfl
              have y2 := CE.out.2.1 2 _ rfl
              have y3 := CE.out.2.1 3 _ rfl
              have y4 := CE.out.2.1 4 _ rfl
              have y5 := CE.out.2.1 5 _ rfl
              have y6 := CE.out.2.1 6 _ rfl
              have y7 := CE.out.2.1 7 _ rfl
              have y8 := CE.out.2.1 8 _ rfl
              have y9 := CE.out.2.1 9 _ rfl
              have y10 := CE.out.2.1 10 _ rfl
              have y11 := CE.out.2.1 11 _ rfl
              have y12 := CE.out.2.1 12 _ rfl
              go_wp2_with fail
              refine (IK.out _).mono ?_
              rintro e w' ⟨rfl, rfl⟩
              go_wp2_with fail
              refine (IB.out _).mono ?_
              rintro e w2 ⟨rfl, hb⟩
              have CE2 := hid (CE.out.below hb)
              have B2 := hid (B0.out.trans (hb.mono B0.out.size))
              clear y0 y1 y2 y3 y4 y5 y6 y7 y8 y9 y10 y11 y12 hb CE
              have y0 := CE2.out.2.1 0 _ rfl
              have y1 := CE2.out.2.1 1 _ rfl
              have y2 := CE2.out.2.1 2 _ rfl
              have y3 := CE2.out.2.1 3 _ rfl
              have y4 := CE2.out.2.1 4 _ rfl
              have y5 := CE2.out.2.1 5 _ rfl
              have y6 := CE2.out.2.1 6 _ rfl
              have y7 := CE2.out.2.1 7 _ rfl
              have y8 := CE2.out.2.1 8 _ rfl
              have y9 := CE2.out.2.1 9 _ rfl
              have y10 := CE2.out.2.1 10 _ rfl
              have y11 := CE2.out.2.1 11 _ rfl
              have y12 := CE2.out.2.1 12 _ rfl
              go_wp2_with fail
              go_ret
              exact ⟨ret_i64 (show (3 : Int) = buildE p from by unfold buildE; rw [if_neg (by rw [bk]; decide)]; rw [if_neg (by rw [br]; decide)]; rw [if_neg n5.out, if_pos (.inl ⟨n3.out, by simp at d24; omega⟩)]), B2.out⟩
        · go_enter Try.func34, Try.ntmps34
          go_upto_region 1 with (fail)
          generalize (w.alloc (.cells #[.int .i64 p.kind, .int .i64 p.life, .int .i64 p.piece, .int .i64 p.src, .int .i64 p.dst, .int .i64 p.fp, .int .i64 p.tp, .int .i64 p.flags, .int .i64 p.label, .bool p.bare, .int .i64 p.code, .slice AO p.no cO, .slice AD p.nd cD] 26)) = w1 at *
          have y0 := CE.out.2.1 0 _ rfl
          have y1 := CE.out.2.1 1 _ rfl
          have y2 := CE.out.2.1 2 _ rfl
          have y3 := CE.out.2.1 3 _ rfl
          have y4 := CE.out.2.1 4 _ rfl
          have y5 := CE.out.2.1 5 _ rfl
          have y6 := CE.out.2.1 6 _ rfl
          have y7 := CE.out.2.1 7 _ rfl
          have y8 := CE.out.2.1 8 _ rfl
          have y9 := CE.out.2.1 9 _ rfl
          have y10 := CE.out.2.1 10 _ rfl
          have y11 := CE.out.2.1 11 _ rfl
          have y12 := CE.out.2.1 12 _ rfl
          go_wp2_with fail
          refine (IK.out _).mono ?_
          rintro e w' ⟨rfl, rfl⟩
          go_wp2_with fail
          refine (IB.out _).mono ?_
          rintro e w2 ⟨rfl, hb⟩
          have CE2 := hid (CE.out.below hb)
          have B2 := hid (B0.out.trans (hb.mono B0.out.size))
          clear y0 y1 y2 y3 y4 y5 y6 y7 y8 y9 y10 y11 y12 hb CE
          have y0 := CE2.out.2.1 0 _ rfl
          have y1 := CE2.out.2.1 1 _ rfl
          have y2 := CE2.out.2.1 2 _ rfl
          have y3 := CE2.out.2.1 3 _ rfl
          have y4 := CE2.out.2.1 4 _ rfl
          have y5 := CE2.out.2.1 5 _ rfl
          have y6 := CE2.out.2.1 6 _ rfl
          have y7 := CE2.out.2.1 7 _ rfl
          have y8 := CE2.out.2.1 8 _ rfl
          have y9 := CE2.out.2.1 9 _ rfl
          have y10 := CE2.out.2.1 10 _ rfl
          have y11 := CE2.out.2.1 11 _ rfl
          have y12 := CE2.out.2.1 12 _ rfl
          go_wp2_with fail
          go_ret
          exact ⟨ret_i64 (show (5 : Int) = buildE p from by unfold buildE; rw [if_neg (by rw [bk]; decide)]; rw [if_neg (by rw [br]; decide)]; rw [if_pos ⟨n1.out, by simp at d40; omega⟩]), B2.out⟩
end Go.Proofs.Ytjljaecjnpmdoaa
