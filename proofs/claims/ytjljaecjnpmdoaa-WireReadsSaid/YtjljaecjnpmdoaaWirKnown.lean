/- What known asks. -/
import Derived.Test.YtjljaecjnpmdoaaWirBld3
import Derived.Test.YtjljaecjnpmdoaaWirNat
import Derived.BigQuiet
import Derived.Deep.RegionHeld3
import Derived.Deep.Cut
namespace Go.Proofs.Ytjljaecjnpmdoaa
set_option linter.unusedVariables false
set_option linter.unusedSimpArgs false
open Go.RowKit Go.ChangeShapes Go.WideShapes Go.ChangeAt

set_option maxHeartbeats 4000000 in
theorem same_any (p : Pk) (AO AD AO2 AD2 : Option Addr) (cO cD cO2 cD2 : Nat) (go2 gd2 : Nat → Int) (w : World) (h1 : By w AO p.no p.go) (h2 : By w AD p.nd p.gd) (h3 : By w AO2 p.no go2) (h4 : By w AD2 p.nd gd2) (ho : ∀ j, j < p.no → p.go j = go2 j) (hd : ∀ j, j < p.nd → p.gd j = gd2 j) :
    Calls Try.prog 20 #[.agg #[.int .i64 p.kind, .int .i64 p.life, .int .i64 p.piece, .int .i64 p.src, .int .i64 p.dst, .int .i64 p.fp, .int .i64 p.tp, .int .i64 p.flags, .int .i64 p.label, .bool p.bare, .int .i64 p.code, .slice AO p.no cO, .slice AD p.nd cD], .agg #[.int .i64 p.kind, .int .i64 p.life, .int .i64 p.piece, .int .i64 p.src, .int .i64 p.dst, .int .i64 p.fp, .int .i64 p.tp, .int .i64 p.flags, .int .i64 p.label, .bool p.bare, .int .i64 p.code, .slice AO2 p.no cO2, .slice AD2 p.nd cD2]] w fun e w' => e = .returned (.bool true) ∧ Below w.heap.size w w' := by
  have eo := bstr_ext ho
  have ed := bstr_ext hd
  have K1 := fun (W : World) (hw : Below w.heap.size w W) => conv_str cO (Sl.below h1 hw (Nat.le_refl _))
  have K2 := fun (W : World) (hw : Below w.heap.size w W) => conv_str cD (Sl.below h2 hw (Nat.le_refl _))
  have K3 := fun (W : World) (hw : Below w.heap.size w W) => conv_str cO2 (Sl.below h3 hw (Nat.le_refl _))
  have K4 := fun (W : World) (hw : Below w.heap.size w W) => conv_str cD2 (Sl.below h4 hw (Nat.le_refl _))
  have BW : Below w.heap.size w ((w.alloc (.cells #[.int .i64 p.kind, .int .i64 p.life, .int .i64 p.piece, .int .i64 p.src, .int .i64 p.dst, .int .i64 p.fp, .int .i64 p.tp, .int .i64 p.flags, .int .i64 p.label, .bool p.bare, .int .i64 p.code, .slice AO p.no cO, .slice AD p.nd cD] 26)).alloc (.cells #[.int .i64 p.kind, .int .i64 p.life, .int .i64 p.piece, .int .i64 p.src, .int .i64 p.dst, .int .i64 p.fp, .int .i64 p.tp, .int .i64 p.flags, .int .i64 p.label, .bool p.bare, .int .i64 p.code, .slice AO2 p.no cO2, .slice AD2 p.nd cD2] 26)) := ((Below.refl w.heap.size w).alloc (Nat.le_refl _) _).alloc (by simp) _
  have C1 := K1 _ BW
  have C2 := K2 _ BW
  have C3 := K3 _ BW
  have C4 := K4 _ BW
  rw [← eo] at C3
  rw [← ed] at C4
  clear K1 K2 K3 K4 eo ed ho hd h1 h2 h3 h4
  replace BW := hid BW
  go_enter Try.func20, Try.ntmps20
  go_wp2_with fail
  go_ret
  exact ⟨rfl, BW.out⟩
theorem outd_yes {w : World} {L : Nat} {F : Nat → Int} {e : Ending} {w' : World} (h : Outd w 0 L F e w') : ∃ A c, e = .returned (.tuple #[.slice A L c, .int .i64 0]) ∧ OB w' w.heap.size (.slice A L c) L F ∧ L ≤ c ∧ Below w.heap.size w w' := by
  obtain ⟨v, rfl, ho, hb⟩ := h
  rw [if_pos rfl] at ho
  obtain ⟨A, c, rfl, hc, _, _⟩ := ho.form_
  exact ⟨A, c, rfl, ho, hc, hb⟩
theorem outd_not {w : World} {E : Int} {L : Nat} {F : Nat → Int} {e : Ending} {w' : World} (hE : E ≠ 0) (h : Outd w E L F e w') : ∃ A c, e = .returned (.tuple #[.slice A 0 c, .int .i64 E]) ∧ OB w' w.heap.size (.slice A 0 c) 0 F ∧ Below w.heap.size w w' := by
  obtain ⟨v, rfl, ho, hb⟩ := h
  rw [if_neg hE] at ho
  obtain ⟨A, c, rfl, hc, _, _⟩ := ho.form_
  exact ⟨A, c, rfl, ho, hb⟩
/-- The packet that known builds. -/
def p0 : Pk := { kind := 2, life := 9, src := 1, dst := 2, fp := 3, tp := 4, label := 5, nd := 1, gd := fun _ => 6 }
theorem c0_B : IsB (fun _ => (0 : Int)) := fun _ => ⟨(by decide : (0 : Int) ≤ 0), (by decide : (0 : Int) ≤ 255)⟩
theorem p0_gd : IsB p0.gd := fun _ => ⟨(by decide : (0 : Int) ≤ 6), (by decide : (6 : Int) ≤ 255)⟩
theorem p0_go : IsB p0.go := c0_B
theorem p0_E : buildE p0 = 0 := by decide +kernel
theorem p0_L : lenP p0 = 25 := by decide +kernel
theorem p0_B : IsB (builtF p0) := builtF_B p0_gd p0_go p0_E
theorem p0_P : parseE (builtF p0) 25 = 0 := by decide +kernel
theorem p0_w : wholeB (builtF p0) 25 = true := by decide +kernel
theorem p0_a : ageE (builtF p0) 25 = 0 := by decide +kernel
theorem p0_aw : wholeB (ageF (builtF p0)) 25 = true := by decide +kernel
theorem p0_n : natE (builtF p0) 25 7 8 = 0 := by decide +kernel
theorem p0_nw : wholeB (natF (builtF p0) 25 false 7 8) 25 = true := by decide +kernel
theorem p0_r : wrE (builtF p0) 25 20 2 77 = 0 := by decide +kernel
theorem p0_rw : wholeB (wrF (builtF p0) 25 20 2 77) 25 = true := by decide +kernel
theorem p0_l : (parseR (builtF p0) 25).label = 5 := by decide +kernel
theorem z_P : parseE (fun _ => 0) 0 = 1 := by decide +kernel
theorem age_B {g : Nat → Int} {L : Nat} (hg : IsB g) (h : ageE g L = 0) : IsB (ageF g) := by
  unfold ageF
  refine putF_B (set1_B hg 1 _ ?_ ?_) _ _ _
  · unfold ageE at h
    split at h
    · contradiction
    · split at h
      · cases h
      · omega
  · have := hg 1; omega
theorem nat_B {g : Nat → Int} (hg : IsB g) (L : Nat) (s : Bool) (ad po : Int) : IsB (natF g L s ad po) := by
  have hp : IsB (natP g s ad po) := by unfold natP; split <;> exact putF_B (putF_B hg _ _ _) _ _ _
  unfold natF
  dsimp only
  split
  · exact tbody_B _ _ _ hp
  · exact fillF_B (tbody_B _ _ _ (tbody_B _ _ _ (tbody_B _ _ _ hp)))
theorem six (w : World) : By (w.alloc (.cells #[.int .u8 6] 5)) (some ⟨w.heap.size, 0, none⟩) 1 (fun _ => 6) := by
  intro _
  refine ⟨w.heap.size, 0, rfl, by simp, fun j hj => ?_⟩
  have h := Ce.made (w := w) (l := [.int .u8 6]) (T := 5) rfl
  obtain rfl : j = 0 := by omega
  exact h.2.1 0 _ rfl
attribute [local irreducible] builtF ageF natF wrF in
set_option maxHeartbeats 8000000 in
theorem known_any (w : World) : Calls Try.prog 15 #[] w fun e w' => e = .returned (.bool true) ∧ Below w.heap.size w w' := by
  go_enter Try.func15, Try.ntmps15
  have PN := hid (fun (W : World) => parse_any none 0 0 (fun _ => 0) W (Sl.nil _ _ _) c0_B (Nat.le_refl _) (by omega))
  unfold Parsed at PN
  rw [z_P] at PN
  generalize parseR (fun _ => 0) 0 = p at PN
  go_wp2_with fail
  refine (PN.out _).mono ?_
  rintro x w1 ⟨O, D, rfl, hO, hD, hb1⟩
  obtain ⟨AO, cO, rfl, _, _, _⟩ := hO.form_
  obtain ⟨AD, cD, rfl, _, _, _⟩ := hD.form_
  clear hO hD
  have B1 := hid (hb1.alloc hb1.size (.cells #[.int .i64 p.kind, .int .i64 p.life, .int .i64 p.piece, .int .i64 p.src, .int .i64 p.dst, .int .i64 p.fp, .int .i64 p.tp, .int .i64 p.flags, .int .i64 p.label, .bool p.bare, .int .i64 p.code, .slice AO p.no cO, .slice AD p.nd cD] 26))
  clear hb1 PN
  unfold pkV pkL
  go_simp
  go_upto_region 2 with (fail)
  generalize (w1.alloc (.cells #[.int .i64 p.kind, .int .i64 p.life, .int .i64 p.piece, .int .i64 p.src, .int .i64 p.dst, .int .i64 p.fp, .int .i64 p.tp, .int .i64 p.flags, .int .i64 p.label, .bool p.bare, .int .i64 p.code, .slice AO p.no cO, .slice AD p.nd cD] 26)) = w2 at *
  have BU := hid (fun (W : World) A c (h : By W (some A) 1 (fun _ => 6)) => (show Calls Try.prog 17 #[.agg #[.int .i64 2, .int .i64 9, .int .i64 0, .int .i64 1, .int .i64 2, .int .i64 3, .int .i64 4, .int .i64 0, .int .i64 5, .bool false, .int .i64 0, .slice none 0 0, .slice (some A) 1 c]] W (Outd W 0 25 (builtF p0)) from by have := build_any p0 none 0 (some A) c W (Sl.nil _ _ _) h p0_go p0_gd (by decide) (by decide); rw [p0_E, p0_L] at this; exact this))
  have B2 := hid (B1.out.alloc B1.out.size (.cells #[.int .u8 6] 5))
  have S6 := hid (six w2)
  go_wp2_with fail
  refine (BU.out _ _ _ S6.out).mono ?_
  rintro x w3 hx
  obtain ⟨A, c, rfl, hO, hc, hb⟩ := outd_yes hx
  have O3 := hid hO
  have B3 := hid (B2.out.trans (hb.mono B2.out.size))
  clear hx hO hb BU S6 B1
  have HBY := hid (fun (W : World) (h : Below w3.heap.size w3 W) => Sl.below O3.out.sl1 h (Nat.le_refl _))
  have PB := hid (parse_any A 25 c _ w3 O3.out.sl1 p0_B hc (by omega))
  unfold Parsed at PB
  rw [p0_P] at PB
  have LB := hid p0_l
  generalize parseR (builtF p0) 25 = q at PB LB
  go_simp
  go_wp2_with fail
  refine PB.out.mono ?_
  rintro x w4 ⟨O, D, rfl, hO, hD, hb1⟩
  obtain ⟨AO, cO, rfl, _, _, _⟩ := hO.form_
  obtain ⟨AD, cD, rfl, _, _, _⟩ := hD.form_
  clear hO hD
  have B4 := hid (hb1.alloc hb1.size (.cells #[.int .i64 q.kind, .int .i64 q.life, .int .i64 q.piece, .int .i64 q.src, .int .i64 q.dst, .int .i64 q.fp, .int .i64 q.tp, .int .i64 q.flags, .int .i64 q.label, .bool q.bare, .int .i64 q.code, .slice AO q.no cO, .slice AD q.nd cD] 26))
  have CE := hid (Ce.made (w := w4) (l := [.int .i64 q.kind, .int .i64 q.life, .int .i64 q.piece, .int .i64 q.src, .int .i64 q.dst, .int .i64 q.fp, .int .i64 q.tp, .int .i64 q.flags, .int .i64 q.label, .bool q.bare, .int .i64 q.code, .slice AO q.no cO, .slice AD q.nd cD]) (T := 26) rfl)
  simp only [List.toArray] at CE
  clear hb1 PB
  unfold pkV pkL
  go_simp
  go_upto_region 4 with (fail)
  generalize (w4.alloc (.cells #[.int .i64 q.kind, .int .i64 q.life, .int .i64 q.piece, .int .i64 q.src, .int .i64 q.dst, .int .i64 q.fp, .int .i64 q.tp, .int .i64 q.flags, .int .i64 q.label, .bool q.bare, .int .i64 q.code, .slice AO q.no cO, .slice AD q.nd cD] 26)) = w5 at *
  have AG := hid (age_any A 25 c _ w5 (HBY.out _ B4.out) p0_B hc (by omega))
  rw [p0_a] at AG
  go_wp2_with fail
  refine AG.out.mono ?_
  rintro x w6 hx
  obtain ⟨A6, c6, rfl, hO, hc6, hb⟩ := outd_yes hx
  have O6 := hid hO
  have B6 := hid (then_ B4.out hb)
  have C6 := hid (CE.out.below hb)
  clear hx hO hb AG CE
  have NA := hid (nat_any A 25 c _ w6 (HBY.out _ B6.out) p0_B hc (by omega) false 7 8)
  rw [p0_n] at NA
  go_simp
  go_wp2_with fail
  refine NA.out.mono ?_
  rintro x w7 hx
  obtain ⟨A7, c7, rfl, hO, hc7, hb⟩ := outd_yes hx
  have O7 := hid hO
  have O6b := hid (OB.keep_ O6.out hb)
  have B7 := hid (then_ B6.out hb)
  have C7 := hid (C6.out.below hb)
  clear hx hO hb NA C6 O6
  have WR := hid (write_any A 25 c _ w7 (HBY.out _ B7.out) p0_B hc (by omega) 20 2 77 (by omega))
  rw [p0_r] at WR
  go_simp
  go_wp2_with fail
  refine WR.out.mono ?_
  rintro x w8 hx
  obtain ⟨A8, c8, rfl, hO, hc8, hb⟩ := outd_yes hx
  have O8 := hid hO
  have O6c := hid (OB.keep_ O6b.out hb)
  have O7c := hid (OB.keep_ O7.out hb)
  have B8 := hid (then_ B7.out hb)
  have C8 := hid (C7.out.below hb)
  clear hx hO hb WR C7 O6b O7
  have y8 := C8.out.2.1 8 _ rfl
  rw [LB.out] at y8
  go_simp
  go_wp2_with fail
  refine (re_bool (whole_any A 25 c _ w8 (HBY.out _ B8.out) p0_B hc (by omega)) p0_w).mono ?_
  rintro x w9 ⟨rfl, hb⟩
  have B9 := hid (then_ B8.out hb)
  have O6d := hid (OB.keep_ O6c.out hb)
  have O7d := hid (OB.keep_ O7c.out hb)
  have O8d := hid (OB.keep_ O8.out hb)
  clear hb
  go_wp2_with fail
  refine (re_bool (whole_any A6 25 c6 _ w9 O6d.out.sl1 (age_B p0_B p0_a) hc6 (by omega)) p0_aw).mono ?_
  rintro x w10 ⟨rfl, hb⟩
  have B10 := hid (then_ B9.out hb)
  have O7e := hid (OB.keep_ O7d.out hb)
  have O8e := hid (OB.keep_ O8d.out hb)
  clear hb
  go_wp2_with fail
  refine (re_bool (whole_any A7 25 c7 _ w10 O7e.out.sl1 (nat_B p0_B 25 false 7 8) hc7 (by omega)) p0_nw).mono ?_
  rintro x w11 ⟨rfl, hb⟩
  have B11 := hid (then_ B10.out hb)
  have O8f := hid (OB.keep_ O8e.out hb)
  clear hb
  go_wp2_with fail
  refine (re_bool (whole_any A8 25 c8 _ w11 O8f.out.sl1 (wr_B p0_B 25 20 2 77) hc8 (by omega)) p0_rw).mono ?_
  rintro x w12 ⟨rfl, hb⟩
  have B12 := hid (then_ B11.out hb)
  go_wp2_with fail
  go_ret
  exact ⟨rfl, then_ B3.out B12.out⟩
end Go.Proofs.Ytjljaecjnpmdoaa
