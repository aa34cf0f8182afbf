/- Take of a fault, and of any bytes. -/
import Derived.Test.YteapnfdpkjbfhaaGreatGa
import Derived.Test.YteapnfdpkjbfhaaGreatPlQ
import Derived.Test.YteapnfdpkjbfhaaGreatGz
import Derived.BigQuiet
import Derived.Deep.RegionHeld3
import Derived.Deep.Cut
import Derived.IntWalk
namespace Go.Proofs.YteapnfdpkjbfhaaGreat
set_option linter.unusedVariables false
set_option linter.unusedSimpArgs false
open Go.RowKit Go.ChangeShapes Go.WideShapes Go.ChangeAt
set_option maxRecDepth 100000
attribute [local irreducible] PA
set_option maxHeartbeats 4000000 in
theorem takef_any (p : Pl) (pb sb wb : Nat) (nr : Nat → Option Int) (g : Nat → Int) (n c : Nat) (X : Option Addr) (w : World) (hg : IsB g) (hn : n ≤ 1000000) (hq : parseE g n = 0) (h3 : g 0 = 3) (hp : Pt p) (hF : Fb w pb 130 (plf sb nr)) (hpl : pb ≠ sb ∧ pb ≠ wb) (hS : StAt w sb wb p) (hX : By w X n g) (hc : n ≤ c) :
 Calls Tryz.prog 15 #[.pointer (some ⟨pb, 0, none⟩), .slice X n c] w (Took w pb sb (takeT p true nr g n)) := by
 have PS := hid (fun (w' : World) (hb : Below w.heap.size w w') => parse_any X n c g w' (Sl.below hX hb (Nat.le_refl _)) hg hc hn)
 have SA := hid hS
 have HF := hid hF
 have HX := hid (fun (w' : World) (hb : Below w.heap.size w w') => (show By w' X n g from Sl.below hX hb (Nat.le_refl _)))
 have HG := hid hg
 have HP := hid hp
 have HC := hid hc
 have H3 := hid h3
 have HQ := hid hq
 have S0 : Hid (HS [] w w []) := hid HS.start
 clear hS hF hX hg hp hc h3 hpl hq
 go_enter Tryz.func15, Tryz.ntmps15
 go_upto_region 1 with ((with_reducible refine wl_id ?_); refine wl_ow rfl (ow_allocC rfl (zOc _) (by simp) S0.out ?_); intro U w_ hZ _; have S1 := hid hZ; clear hZ)
 have hF1 := HF.out.below S1.out.bl
 have c0 : w_.cell? ⟨pb, 0, none⟩ = some (.pointer (some ⟨sb, 0, none⟩)) := hF1.2.1 0 (by omega)
 have c1 : w_.cell? ⟨pb, 1, none⟩ = some (.bool true) := hF1.2.1 1 (by omega)
 clear hF1
 go_wp2_with fail
 refine (getp_any (some ⟨sb, 0, none⟩) true _).mono ?_
 rintro e w2 ⟨rfl, hb⟩
 have S2 := hid (S1.out.below hb)
 clear hb S0 S1 c0 c1
 go_simp
 go_wp2_with fail
 refine (PS.out _ S2.out.bl).mono ?_
 rintro e w3 ⟨O, D, rfl, hO, hD, hb⟩
 have S3 := hid (S2.out.newOD hb hO hD rfl)
 obtain ⟨AO, cO, rfl, _, _, _⟩ := hO.form_
 obtain ⟨AD, cD, rfl, hcD, _, _⟩ := hD.form_
 have HCD := hid hcD
 clear hb S2 PS hO hD hcD
 obtain ⟨x, hx⟩ : ∃ x, x = parseR g n := ⟨_, rfl⟩
 have HT : Hid (takeT p true nr g n = if x.piece ≠ 0 then dropT 6 nr else if x.life ≤ 1 then dropT 7 nr else if x.dst = p.a ∧ x.kind = 3 then fauT p nr g n x else if x.dst = p.a ∧ x.tp = p.p then inT p nr g n x else if x.kind = 3 then dropT 8 nr else match findO p x.src x.fp with | none => dropT 8 nr | some s => outT p nr g n x s) := hid (by
  rw [hx]; unfold takeT; rw [if_neg (by simp), if_neg (by rw [HQ.out]; simp)]; rfl)
 rw [← hx] at S3 HCD
 rw [← hx, HQ.out]
 unfold pkV pkL
 have XX := hid hx
 have LN := hid (rd_len HG.out HQ.out)
 rw [← XX.out] at LN
 have KI : Hid (x.kind = 3) := hid (by have h1 := LN.out.2.2.1; have := H3.out; omega)
 clear hx
 go_simp
 go_upto_region 5 with (first | ((with_reducible refine wl_id ?_); refine wl_ow rfl (ow_allocC rfl (zPk _) (by simp) S3.out ?_); intro E1 w_ hZ _; have S4 := hid hZ; clear hZ) | ((with_reducible refine wl_id ?_); refine wl_ow rfl (ow_storeC (A := []) [.int .i64 x.kind, .int .i64 x.life, .int .i64 x.piece, .int .i64 x.src, .int .i64 x.dst, .int .i64 x.fp, .int .i64 x.tp, .int .i64 x.flags, .int .i64 x.label, .bool x.bare, .int .i64 x.code, .slice AO x.no cO, .slice AD x.nd cD] rfl rfl (rfl) S4.out rfl iPk rfl ?_); intro w_ hZ; have S5 := hid hZ; clear hZ))
 clear S3
 obtain ⟨y0, y1, y2, y3, y4, y5, y6, y7, y8, y9, y10, y11, y12⟩ := (S5.out.ce 0 rfl).c13
 have k3 : (x.kind == 3) = true := by simp [KI.out]
 cases e2 : (x.piece != 0)
 ·cases e1 : decide (x.life ≤ 1)
  ·have h1 : ¬ x.life ≤ 1 := by simpa using e1
   have H1 : Hid (1 < g 1) := hid (by have := LN.out.2.2.2.1; omega)
   have HT2 : Hid (takeT p true nr g n = if x.dst = p.a then fauT p nr g n x else dropT 8 nr) := hid (by
    rw [HT.out, if_neg (by simpa using e2), if_neg h1]
    by_cases hd : x.dst = p.a
    ·rw [if_pos ⟨hd, KI.out⟩, if_pos hd]
    ·rw [if_neg (fun h => hd h.1), if_neg (fun h => hd h.1), if_pos KI.out, if_neg hd])
   have CM := hid (fun (w' : World) (hb : Below w.heap.size w w') => (show Calls Tryz.prog 48 #[.pointer (some ⟨sb, 0, none⟩), .agg #[.int .i64 x.kind, .int .i64 x.life, .int .i64 x.piece, .int .i64 x.src, .int .i64 x.dst, .int .i64 x.fp, .int .i64 x.tp, .int .i64 x.flags, .int .i64 x.label, .bool x.bare, .int .i64 x.code, .slice AO x.no cO, .slice AD x.nd cD]] w' fun e w2 => e = .returned (.bool (x.dst == p.a)) ∧ Below w'.heap.size w' w2 from by
    have h := comes_any p sb x AO cO AD cD w' (SA.out.below hb).pl.c1 (SA.out.below hb).pl.c2 (SA.out.below hb).pl.1
    rw [k3, Bool.true_or, Bool.and_true] at h
    exact h))
   have FAU := hid (fun (w' : World) (hb : Below w.heap.size w w') (hbo : Hid (By w' AD x.nd x.gd)) => fault_any p pb sb wb nr g n c x X AO cO AD cD w' XX.out HG.out HQ.out H1.out H3.out HP.out (HF.out.below hb) (SA.out.below hb) (HX.out w' hb) HC.out hbo.out HCD.out)
   obtain ⟨kc, hkc⟩ : ∃ kc, kc = (x.dst == p.a) := ⟨_, rfl⟩
   have HKC := hid hkc
   rw [← hkc] at CM
   clear h1 hkc HT
   cases kc
   ·have HR : Hid (takeT p true nr g n = dropT 8 nr) := hid (by
     have h := HKC.out
     rw [HT2.out, if_neg (fun hh => by rw [beq_iff_eq.2 hh] at h; cases h)])
    clear HT2 HKC
    go_wp2_with fail
    refine (CM.out _ S5.out.bl).mono ?_
    rintro e w6 ⟨rfl, hb⟩
    have S6 := hid (S5.out.below hb)
    clear hb S5 y0 y1 y2 y3 y4 y5 y6 y7 y8 y9 y10 y11 y12
    obtain ⟨y0, y1, y2, y3, y4, y5, y6, y7, y8, y9, y10, y11, y12⟩ := (S6.out.ce 0 rfl).c13
    go_simp
    go_wp2_with fail
    refine (CM.out _ S6.out.bl).mono ?_
    rintro e w7 ⟨rfl, hb⟩
    have S7 := hid (S6.out.below hb)
    clear hb S6 y0 y1 y2 y3 y4 y5 y6 y7 y8 y9 y10 y11 y12
    obtain ⟨y0, y1, y2, y3, y4, y5, y6, y7, y8, y9, y10, y11, y12⟩ := (S7.out.ce 0 rfl).c13
    go_simp
    go_wp2_with fail
    refine (drop_any 8 _).mono ?_
    rintro e w20 ⟨rfl, hb⟩
    have S20 := hid (S7.out.below hb)
    clear hb S7
    unfold ocV
    go_simp
    go_wp2_with (((with_reducible refine wl_id ?_); refine wl_ow rfl (ow_storeC (A := [thC E1 [.int .i64 x.kind, .int .i64 x.life, .int .i64 x.piece, .int .i64 x.src, .int .i64 x.dst, .int .i64 x.fp, .int .i64 x.tp, .int .i64 x.flags, .int .i64 x.label, .bool x.bare, .int .i64 x.code, .slice AO x.no cO, .slice AD x.nd cD], thOD w2.heap.size (.slice AO x.no cO) (.slice AD x.nd cD) x.no x.nd x.go x.gd]) [.int .i64 8, .int .i64 (-1), .bool false, .slice none 0 0] rfl rfl (rfl) S20.out rfl iOc rfl ?_); intro w_ hZ; have S21 := hid hZ; clear hZ; (first | refine end_then ?_ | refine then_norm ?_); apply_assumption; refine wp_ret ?_; (repeat (first | refine ret_then ?_ | refine inb_ret ?_)); (show bodyPost _ _ _ _ _ _); exact bodyPost_ret (v := .agg ([.int .i64 8, .int .i64 (-1), .bool false, .slice none 0 0] : List Value).toArray) (results_C Tryz.results15 _ rfl (S21.out.ce 2 rfl) Tryz.underlying47 rfl iOc) rfl (by rw [HR.out]; exact ⟨none, 0, rfl, OB.nil, Nat.le_refl _, HF.out.below S21.out.bl, Ch.of_below S21.out.bl⟩)))
   ·have HR : Hid (takeT p true nr g n = fauT p nr g n x) := hid (by
     have h := HKC.out.symm
     rw [HT2.out, if_pos (beq_iff_eq.1 h)])
    clear HT2 HKC
    go_wp2_with fail
    refine (CM.out _ S5.out.bl).mono ?_
    rintro e w6 ⟨rfl, hb⟩
    have S6 := hid (S5.out.below hb)
    clear hb S5 y0 y1 y2 y3 y4 y5 y6 y7 y8 y9 y10 y11 y12
    obtain ⟨y0, y1, y2, y3, y4, y5, y6, y7, y8, y9, y10, y11, y12⟩ := (S6.out.ce 0 rfl).c13
    go_simp
    go_wp2_with fail
    refine (FAU.out _ S6.out.bl (hid (Ow.sl1 (S6.out.nth 1 rfl).2))).mono ?_
    intro e w10 hT
    generalize fauT p nr g n x = t at HR hT
    obtain ⟨X9, c9, rfl, hz, hc9⟩ := S6.out.took (HF.out.below S6.out.bl) HF.out.1 hT
    have S20 := hid hz
    have HC9 := hid hc9
    clear hz hT hc9 y0 y1 y2 y3 y4 y5 y6 y7 y8 y9 y10 y11 y12
    unfold ocV
    go_simp
    go_wp2_with (((with_reducible refine wl_id ?_); refine wl_ow rfl (ow_storeC (A := [thW w.heap.size 5 1 (.slice X9 t.n c9) t.n (fun j => .int .u8 (t.f j)), thB pb 130 (plf sb t.nr), thC E1 [.int .i64 x.kind, .int .i64 x.life, .int .i64 x.piece, .int .i64 x.src, .int .i64 x.dst, .int .i64 x.fp, .int .i64 x.tp, .int .i64 x.flags, .int .i64 x.label, .bool x.bare, .int .i64 x.code, .slice AO x.no cO, .slice AD x.nd cD], thOD w2.heap.size (.slice AO x.no cO) (.slice AD x.nd cD) x.no x.nd x.go x.gd]) [.int .i64 t.d, .int .i64 t.s, .bool t.c, .slice X9 t.n c9] rfl rfl (rfl) S20.out rfl iOc rfl ?_); intro w_ hZ; have S21 := hid hZ; clear hZ; (first | refine end_then ?_ | refine then_norm ?_); apply_assumption; refine wp_ret ?_; (repeat (first | refine ret_then ?_ | refine inb_ret ?_)); (show bodyPost _ _ _ _ _ _); exact bodyPost_ret (v := .agg ([.int .i64 t.d, .int .i64 t.s, .bool t.c, .slice X9 t.n c9] : List Value).toArray) (results_C Tryz.results15 _ rfl (S21.out.ce 4 rfl) Tryz.underlying47 rfl iOc) rfl (by rw [HR.out]; exact ⟨X9, c9, rfl, S21.out.nth 0 rfl, HC9.out, S21.out.fb 1 rfl, S21.out.ch⟩)))
  ·have h1 : x.life ≤ 1 := by simpa using e1
   have HR : Hid (takeT p true nr g n = dropT 7 nr) := hid (by rw [HT.out, if_neg (by simpa using e2), if_pos h1])
   clear HT
   go_wp2_with fail
   refine (drop_any 7 _).mono ?_
   rintro e w20 ⟨rfl, hb⟩
   have S20 := hid (S5.out.below hb)
   clear hb S5
   unfold ocV
   go_simp
   go_wp2_with (((with_reducible refine wl_id ?_); refine wl_ow rfl (ow_storeC (A := [thC E1 [.int .i64 x.kind, .int .i64 x.life, .int .i64 x.piece, .int .i64 x.src, .int .i64 x.dst, .int .i64 x.fp, .int .i64 x.tp, .int .i64 x.flags, .int .i64 x.label, .bool x.bare, .int .i64 x.code, .slice AO x.no cO, .slice AD x.nd cD], thOD w2.heap.size (.slice AO x.no cO) (.slice AD x.nd cD) x.no x.nd x.go x.gd]) [.int .i64 7, .int .i64 (-1), .bool false, .slice none 0 0] rfl rfl (rfl) S20.out rfl iOc rfl ?_); intro w_ hZ; have S21 := hid hZ; clear hZ; (first | refine end_then ?_ | refine then_norm ?_); apply_assumption; refine wp_ret ?_; (repeat (first | refine ret_then ?_ | refine inb_ret ?_)); (show bodyPost _ _ _ _ _ _); exact bodyPost_ret (v := .agg ([.int .i64 7, .int .i64 (-1), .bool false, .slice none 0 0] : List Value).toArray) (results_C Tryz.results15 _ rfl (S21.out.ce 2 rfl) Tryz.underlying47 rfl iOc) rfl (by rw [HR.out]; exact ⟨none, 0, rfl, OB.nil, Nat.le_refl _, HF.out.below S21.out.bl, Ch.of_below S21.out.bl⟩)))
 ·have HR : Hid (takeT p true nr g n = dropT 6 nr) := hid (by rw [HT.out, if_pos (by simpa using e2)])
  clear HT
  go_wp2_with fail
  refine (drop_any 6 _).mono ?_
  rintro e w20 ⟨rfl, hb⟩
  have S20 := hid (S5.out.below hb)
  clear hb S5
  unfold ocV
  go_simp
  go_wp2_with (((with_reducible refine wl_id ?_); refine wl_ow rfl (ow_storeC (A := [thC E1 [.int .i64 x.kind, .int .i64 x.life, .int .i64 x.piece, .int .i64 x.src, .int .i64 x.dst, .int .i64 x.fp, .int .i64 x.tp, .int .i64 x.flags, .int .i64 x.label, .bool x.bare, .int .i64 x.code, .slice AO x.no cO, .slice AD x.nd cD], thOD w2.heap.size (.slice AO x.no cO) (.slice AD x.nd cD) x.no x.nd x.go x.gd]) [.int .i64 6, .int .i64 (-1), .bool false, .slice none 0 0] rfl rfl (rfl) S20.out rfl iOc rfl ?_); intro w_ hZ; have S21 := hid hZ; clear hZ; (first | refine end_then ?_ | refine then_norm ?_); apply_assumption; refine wp_ret ?_; (repeat (first | refine ret_then ?_ | refine inb_ret ?_)); (show bodyPost _ _ _ _ _ _); exact bodyPost_ret (v := .agg ([.int .i64 6, .int .i64 (-1), .bool false, .slice none 0 0] : List Value).toArray) (results_C Tryz.results15 _ rfl (S21.out.ce 2 rfl) Tryz.underlying47 rfl iOc) rfl (by rw [HR.out]; exact ⟨none, 0, rfl, OB.nil, Nat.le_refl _, HF.out.below S21.out.bl, Ch.of_below S21.out.bl⟩)))
/-- Take of any bytes. -/
theorem take_all (p : Pl) (pb sb wb : Nat) (nr : Nat → Option Int) (g : Nat → Int) (n c : Nat) (X : Option Addr) (w : World) (hg : IsB g) (hn : n ≤ 1000000) (hp : Pt p) (hnr : Nt32 nr) (hF : Fb w pb 130 (plf sb nr)) (hpl : pb ≠ sb ∧ pb ≠ wb) (hS : StAt w sb wb p) (hX : By w X n g) (hc : n ≤ c) :
 Calls Tryz.prog 15 #[.pointer (some ⟨pb, 0, none⟩), .slice X n c] w (Took w pb sb (takeT p true nr g n)) := by
 by_cases h : parseE g n = 0 ∧ g 0 = 3
 ·exact takef_any p pb sb wb nr g n c X w hg hn h.1 h.2 hp hF hpl hS hX hc
 ·exact take_any p pb sb wb nr g n c X w hg hn (fun h1 h2 => h ⟨h1, h2⟩) hp hnr hF hpl hS hX hc
end Go.Proofs.YteapnfdpkjbfhaaGreat
