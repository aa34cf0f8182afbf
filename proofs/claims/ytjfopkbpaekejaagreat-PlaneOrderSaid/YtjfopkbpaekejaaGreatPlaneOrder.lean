/- roundhouselaw9.PlaneOrder answers true for every row, any three numbers; no condition. -/
import Derived.Test.YtjfopkbpaekejaaGreatGa
import Derived.Test.YtjfopkbpaekejaaGreatPlKn9
import Derived.Test.YtjfopkbpaekejaaGreatPlOrM
import Derived.Deep.LoopGhost
import Derived.Deep.CutRange
import Derived.Deep.CutBlock
import Derived.IntWalk
import Derived.BigQuiet
import Derived.Deep.RegionHeld3
import Derived.Deep.Cut
namespace Go.Proofs.YtjfopkbpaekejaaGreat.planeOrder
set_option linter.unusedVariables false
set_option linter.unusedSimpArgs false
open Go.RowKit Go.ChangeShapes Go.WideShapes Go.ChangeAt

theorem rfind_fa (p : Pl) (a q : Int) (w : World) : Calls Tryz.prog 13 #[.agg (FA 330 (_root_.Go.Proofs.YtjfopkbpaekejaaGreat.pc p)), .int .i64 a, .int .i64 q] w fun x w' => x = .returned (fdV (findO p a q)) ∧ Below w.heap.size w w' := rfind_any p a q w
attribute [local irreducible] FA FL
theorem ord_w {sr ds ww lf w2 pp w3 xs xd : Int} {fo : Option Nat} (q1 : sr = 9999 ∧ ds = 8888 ∧ ww = 8 ∨ sr = xs ∧ ds = xd ∧ ww = 0) (q2 : lf = 9 ∧ w2 = ww ∨ (lf = 0 ∨ lf = 1) ∧ w2 = 7) (q3 : pp = 0 ∧ w3 = w2 ∨ (pp = 1 ∨ pp = 2) ∧ w3 = 6) (hf : sr = 9999 → fo = none) (hx : xs ≠ 9999) :
    (if fo.isSome = true then w3 else if w3 = 0 then 8 else w3) = if pp ≠ 0 then 6 else if lf ≤ 1 then 7 else if fo.isSome = true then 0 else 8 := by
  rcases q3 with ⟨h1, h2⟩ | ⟨h1, h2⟩
  · have e1 : ¬ pp ≠ 0 := by omega
    rw [if_neg e1]
    rcases q2 with ⟨h3, h4⟩ | ⟨h3, h4⟩
    · have e2 : ¬ lf ≤ 1 := by omega
      rw [if_neg e2]
      rcases q1 with ⟨h5, h6, h7⟩ | ⟨h5, h6, h7⟩
      · have e3 : w3 = 8 := by omega
        rw [hf h5, e3]
        rfl
      · have e3 : w3 = 0 := by omega
        rw [e3]
        cases fo <;> rfl
    · have e2 : lf ≤ 1 := by omega
      have e3 : w3 = 7 := by omega
      rw [if_pos e2, e3]
      cases fo <;> rfl
  · have e1 : pp ≠ 0 := by omega
    have e3 : w3 = 6 := by omega
    rw [if_pos e1, e3]
    cases fo <;> rfl
theorem row_blk {w : World} {A : Option Addr} {n c : Nat} {f : Nat → Int} (h : (thY (.slice A n c) n f).at_ w) (hn : 24 ≤ n) : ∃ g : Nat, A = some ⟨g, 0, none⟩ ∧ g < w.heap.size ∧ (∀ j, j < n → w.cell? ⟨g, j, none⟩ = some (.int .u8 (f j))) ∧ ∀ j, j < n → w.frozen? ⟨g, j, none⟩ = false := by
  obtain ⟨g, hA, _, hg, hc, hf⟩ := Ow.block_ (show Ow w 0 5 1 (.slice A n c) n (fun j => .int .u8 (f j)) from h) (by omega)
  exact ⟨g, hA, hg, fun j hj => hc j (by omega), fun j _ => hf j⟩
theorem row_set {w : World} {W : World} {g n c : Nat} {f : Nat → Int} {L : List Th} (h : HS [] W w (thY (.slice (some ⟨g, 0, none⟩) n c) n f :: L)) (i : Nat) : HS [] W (w.setCell ⟨g, i, none⟩ (.int .u8 ((f i + 1) % 256))) (thY (.slice (some ⟨g, 0, none⟩) n c) n (set1 f i ((f i + 1) % 256)) :: L) := by
  have h1 : OB w 0 (.slice (some ⟨g, 0, none⟩) n c) n f := h.1 (thY (.slice (some ⟨g, 0, none⟩) n c) n f) (by simp)
  exact HS.upd (A := []) h (thY (.slice (some ⟨g, 0, none⟩) n c) n (set1 f i ((f i + 1) % 256))) rfl ((Ch.refl _ _).set1 (.inl (by simp [thY, thW, Value.ownBlock]))) (OB.store h1 i _)
set_option maxRecDepth 100000 in
set_option maxHeartbeats 8000000 in
theorem walk (W : World) (A1 : Option Addr) (n1 c1 : Nat) (g1 : Nat → Int) (hn1 : n1 ≤ c1) (hc1 : c1 ≤ maxLen) (hr1 : Is W A1 n1 g1) (hg1 : IsI g1) (hl1 : ∀ ad, A1 = some ad → 0 < n1 → ad.block < W.heap.size) (re1 : c1 * 8 ≤ 140737488351232) (a0 : Int) (r_a0 : -9223372036854775808 ≤ a0 ∧ a0 ≤ 9223372036854775807) (b0 : Int) (r_b0 : -9223372036854775808 ≤ b0 ∧ b0 ≤ 9223372036854775807) (d0 : Int) (r_d0 : -9223372036854775808 ≤ d0 ∧ d0 ≤ 9223372036854775807) :
    Calls Tryz.prog 3 #[.slice A1 n1 c1, .int .i64 a0, .int .i64 b0, .int .i64 d0] W fun e w' => e = .returned (.bool true) ∧ Below W.heap.size W w' := by
  obtain ⟨p, hp⟩ : ∃ p, p = mkP g1 (min n1 60) := ⟨_, rfl⟩
  have HPI := hid (show Pinv p 60 from by rw [hp]; exact (mkP_inv g1 _).mono (by omega))
  have HPC := hid (show p.a = 10 ∧ p.p = 80 from by rw [hp]; exact mkP_ap g1 _)
  have HPT := hid (show Pt p from by rw [hp]; exact mkP_pt g1 _ (by omega))
  have HAD := hid (show ∀ i, 0 ≤ (p.s i).ad ∧ (p.s i).ad ≤ 4 from by rw [hp]; exact mk_ad g1 _)
  have HPW := hid (show Pw p from by rw [hp]; exact mk_pw g1 _)
  have MK := hid (fun (w : World) (hb : Below W.heap.size W w) => (show Calls Tryz.prog 8 #[.slice A1 n1 c1, .int .i64 60] w fun x w' => x = .returned (.agg (FA 330 (pc p))) ∧ Below w.heap.size w w' from by rw [hp]; exact mk_top W A1 n1 c1 g1 hr1 hl1 hn1 hc1 60 (by decide) w hb))
  clear hp hr1 hl1 hg1 re1 hn1 hc1
  have S0 : Hid (HS [] W W []) := hid HS.start
  go_enter Tryz.func3, Tryz.ntmps3
  go_wp2_with fail
  refine (known_9 _).mono ?_
  rintro e w1 ⟨rfl, hb⟩
  have S1 : Hid (HS [] W w1 []) := hid (S0.out.below hb)
  clear hb S0
  go_simp
  go_wp2_with fail
  refine (MK.out _ S1.out.bl).mono ?_
  rintro e w2 ⟨rfl, hb⟩
  have S2 : Hid (HS [] W w2 []) := hid (S1.out.below hb)
  clear hb S1 MK
  go_simp
  go_upto_region 4 with (first | ((with_reducible refine wl_id ?_); refine wl_ow rfl (ow_alloc rfl (zpl2 _) (by omega) S2.out ?_); intro P w_ hZ _; have SA := hid hZ; clear hZ) | ((with_reducible refine wl_id ?_); refine wl_ow rfl (ow_store (A := []) 0 330 (pc p) (pc p) rfl rfl rfl SA.out (by omega) (fun j hj => patch_all _ _ _ j hj) info_pl2 (pc_one _) ?_); intro w_ hZ; have SX := hid hZ; clear hZ))
  have S3 : Hid (HS [] W _ [thB P 330 (pc p)]) := hid (SX.out)
  clear SX SA S2
  go_wp2_with ((with_reducible refine wl_id ?_); refine wl_ow rfl (ow_load 0 rfl 0 330 (pc p) rfl rfl S3.out (by omega) (fun j hj => by rw [Nat.zero_add]) Tryz.underlying33 rfl info_pl2 ?_))
  refine (up_9 S3.out p HPW.out).mono ?_
  rintro e w3 ⟨pb, sb, wb, rfl, hne, hz⟩
  have S4 : Hid (HS [] W w3 [thS sb wb p, thB pb 130 (plf sb (fun _ => none)), thB P 330 (pc p)]) := hid (hz)
  clear hz S3
  have HNE := hid hne
  clear hne
  go_simp
  go_upto_region 7 with (fail)
  go_wp2_with ((with_reducible refine wl_id ?_); refine wl_ow rfl (ow_load 2 rfl 0 330 (pc p) rfl rfl S4.out (by omega) (fun j hj => by rw [Nat.zero_add]) Tryz.underlying33 rfl info_pl2 ?_))
  refine (c_out S4.out p HPT.out a0 b0 r_a0 r_b0).mono ?_
  rintro e w4 ⟨x, AO, cO, AD, cD, bD, rfl, hcO, hI, hz⟩
  have S5 : Hid (HS [] W w4 [thY (.slice AO x.no cO) x.no x.go, thR bD AD x.nd x.gd, thS sb wb p, thB pb 130 (plf sb (fun _ => none)), thB P 330 (pc p)]) := hid (hz)
  clear hz hcO S4
  have HI := hid hI
  clear hI
  go_simp
  go_upto_region 8 with (first | ((with_reducible refine wl_id ?_); refine wl_ow rfl (ow_allocC rfl (zPk _) (by simp) S5.out ?_); intro X w_ hZ _; have SY := hid hZ; clear hZ) | ((with_reducible refine wl_id ?_); refine wl_ow rfl (ow_storeC (A := []) [.int .i64 x.kind, .int .i64 x.life, .int .i64 x.piece, .int .i64 x.src, .int .i64 x.dst, .int .i64 x.fp, .int .i64 x.tp, .int .i64 x.flags, .int .i64 x.label, .bool x.bare, .int .i64 x.code, .slice AO x.no cO, .slice AD x.nd cD] rfl rfl (rfl) SY.out rfl iPk rfl ?_); intro w_ hZ; have SX := hid hZ; clear hZ))
  have S6 : Hid (HS [] W _ [thC X [.int .i64 x.kind, .int .i64 x.life, .int .i64 x.piece, .int .i64 x.src, .int .i64 x.dst, .int .i64 x.fp, .int .i64 x.tp, .int .i64 x.flags, .int .i64 x.label, .bool x.bare, .int .i64 x.code, .slice AO x.no cO, .slice AD x.nd cD], thY (.slice AO x.no cO) x.no x.go, thR bD AD x.nd x.gd, thS sb wb p, thB pb 130 (plf sb (fun _ => none)), thB P 330 (pc p)]) := hid (SX.out)
  clear SX SY S5
  have hm2 : ∀ z : Int, bits BinOp.and IntKind.i64 z 1 = z % 2 := fun z => and_i64 z 1 (by omega)
  have HM := hid hm2
  clear hm2
  go_upto_if 32 with (fail)
  go_cut [12] from 30 to 34 (fun v wx => ∃ (sr ds ww : Int), v = .int .i64 ww ∧ (sr = 9999 ∧ ds = 8888 ∧ ww = 8 ∨ sr = x.src ∧ ds = x.dst ∧ ww = 0) ∧ HS [] W wx [thC X [.int .i64 x.kind, .int .i64 x.life, .int .i64 x.piece, .int .i64 sr, .int .i64 ds, .int .i64 x.fp, .int .i64 x.tp, .int .i64 x.flags, .int .i64 x.label, .bool x.bare, .int .i64 x.code, .slice AO x.no cO, .slice AD x.nd cD], thY (.slice AO x.no cO) x.no x.go, thR bD AD x.nd x.gd, thS sb wb p, thB pb 130 (plf sb (fun _ => none)), thB P 330 (pc p)])
  case first =>
    have yl := (S6.out.ce 0 rfl).1
    have yf3 := (S6.out.ce 0 rfl).2.2 3
    have yy3 := (S6.out.ce 0 rfl).2.1 3 _ rfl
    have yf4 := (S6.out.ce 0 rfl).2.2 4
    have yy4 := (S6.out.ce 0 rfl).2.1 4 _ rfl
    skip
    cases hb : (bits BinOp.and IntKind.i64 d0 1 == 1)
    · clear hb
      go_wp2_with fail
      go_meet
      exact ⟨x.src, x.dst, 0, rfl, .inr ⟨rfl, rfl, rfl⟩, S6.out⟩
    · clear hb
      go_wp2_with fail
      go_meet
      exact ⟨9999, 8888, 8, rfl, .inl ⟨rfl, rfl, rfl⟩, HS.setC (A := []) (HS.setC (A := []) S6.out 3 (.int .i64 9999) (by simp)) 4 (.int .i64 8888) (by simp)⟩
  case rest =>
    obtain ⟨sr, ds, ww, rfl, hq1, hz⟩ := hcut
    have S7 : Hid (HS [] W _ [thC X [.int .i64 x.kind, .int .i64 x.life, .int .i64 x.piece, .int .i64 sr, .int .i64 ds, .int .i64 x.fp, .int .i64 x.tp, .int .i64 x.flags, .int .i64 x.label, .bool x.bare, .int .i64 x.code, .slice AO x.no cO, .slice AD x.nd cD], thY (.slice AO x.no cO) x.no x.go, thR bD AD x.nd x.gd, thS sb wb p, thB pb 130 (plf sb (fun _ => none)), thB P 330 (pc p)]) := hid (hz)
    clear hz S6
    have HQ1 := hid hq1
    clear hq1
    go_upto_if 38 with (fail)
    go_cut [12] from 35 to 43 (fun v wx => ∃ (lf w2 : Int), v = .int .i64 w2 ∧ (lf = 9 ∧ w2 = ww ∨ (lf = 0 ∨ lf = 1) ∧ w2 = 7) ∧ HS [] W wx [thC X [.int .i64 x.kind, .int .i64 lf, .int .i64 x.piece, .int .i64 sr, .int .i64 ds, .int .i64 x.fp, .int .i64 x.tp, .int .i64 x.flags, .int .i64 x.label, .bool x.bare, .int .i64 x.code, .slice AO x.no cO, .slice AD x.nd cD], thY (.slice AO x.no cO) x.no x.go, thR bD AD x.nd x.gd, thS sb wb p, thB pb 130 (plf sb (fun _ => none)), thB P 330 (pc p)])
    case first =>
      have yl := (S7.out.ce 0 rfl).1
      have yf1 := (S7.out.ce 0 rfl).2.2 1
      have yy1 := (S7.out.ce 0 rfl).2.1 1 _ rfl
      skip
      cases hb : (bits BinOp.and IntKind.i64 (d0 / 2) 1 == 1)
      · clear hb
        go_wp2_with fail
        go_meet
        exact ⟨9, ww, rfl, .inl ⟨rfl, rfl⟩, HS.setC (A := []) S7.out 1 (.int .i64 9) (by simp)⟩
      · clear hb
        go_wp2_with fail
        go_meet
        exact ⟨bits BinOp.and IntKind.i64 (d0 / 256) 1, 7, rfl, .inr ⟨by rw [HM.out]; omega, rfl⟩, HS.setC (A := []) S7.out 1 (.int .i64 (bits BinOp.and IntKind.i64 (d0 / 256) 1)) (by simp)⟩
    case rest =>
      obtain ⟨lf, w2, rfl, hq2, hz⟩ := hcut
      have S8 : Hid (HS [] W _ [thC X [.int .i64 x.kind, .int .i64 lf, .int .i64 x.piece, .int .i64 sr, .int .i64 ds, .int .i64 x.fp, .int .i64 x.tp, .int .i64 x.flags, .int .i64 x.label, .bool x.bare, .int .i64 x.code, .slice AO x.no cO, .slice AD x.nd cD], thY (.slice AO x.no cO) x.no x.go, thR bD AD x.nd x.gd, thS sb wb p, thB pb 130 (plf sb (fun _ => none)), thB P 330 (pc p)]) := hid (hz)
      clear hz S7
      have HQ2 := hid hq2
      clear hq2
      go_upto_if 47 with (fail)
      go_cut [12] from 44 to 52 (fun v wx => ∃ (pp w3 : Int), v = .int .i64 w3 ∧ (pp = 0 ∧ w3 = w2 ∨ (pp = 1 ∨ pp = 2) ∧ w3 = 6) ∧ HS [] W wx [thC X [.int .i64 x.kind, .int .i64 lf, .int .i64 pp, .int .i64 sr, .int .i64 ds, .int .i64 x.fp, .int .i64 x.tp, .int .i64 x.flags, .int .i64 x.label, .bool x.bare, .int .i64 x.code, .slice AO x.no cO, .slice AD x.nd cD], thY (.slice AO x.no cO) x.no x.go, thR bD AD x.nd x.gd, thS sb wb p, thB pb 130 (plf sb (fun _ => none)), thB P 330 (pc p)])
      case first =>
        have yl := (S8.out.ce 0 rfl).1
        have yf2 := (S8.out.ce 0 rfl).2.2 2
        have yy2 := (S8.out.ce 0 rfl).2.1 2 _ rfl
        skip
        cases hb : (bits BinOp.and IntKind.i64 (d0 / 4) 1 == 1)
        · clear hb
          go_wp2_with fail
          go_meet
          exact ⟨0, w2, rfl, .inl ⟨rfl, rfl⟩, by rw [HI.out.pc] at S8; exact S8.out⟩
        · clear hb
          have hwr : IntKind.i64.wrap (1 + bits BinOp.and IntKind.i64 (d0 / 256) 1) = 1 + bits BinOp.and IntKind.i64 (d0 / 256) 1 := IntWalk.i64_in _ (by rw [HM.out]; omega)
          go_wp2_with fail
          skip
          go_meet
          exact ⟨1 + bits BinOp.and IntKind.i64 (d0 / 256) 1, 6, rfl, .inr ⟨by rw [HM.out]; omega, rfl⟩, HS.setC (A := []) S8.out 2 (.int .i64 (1 + bits BinOp.and IntKind.i64 (d0 / 256) 1)) (by simp)⟩
      case rest =>
        obtain ⟨pp, w3, rfl, hq3, hz⟩ := hcut
        have S9 : Hid (HS [] W _ [thC X [.int .i64 x.kind, .int .i64 lf, .int .i64 pp, .int .i64 sr, .int .i64 ds, .int .i64 x.fp, .int .i64 x.tp, .int .i64 x.flags, .int .i64 x.label, .bool x.bare, .int .i64 x.code, .slice AO x.no cO, .slice AD x.nd cD], thY (.slice AO x.no cO) x.no x.go, thR bD AD x.nd x.gd, thS sb wb p, thB pb 130 (plf sb (fun _ => none)), thB P 330 (pc p)]) := hid (hz)
        clear hz S8
        have HQ3 := hid hq3
        clear hq3
        obtain ⟨y, hy⟩ : ∃ y : Pk, y = { x with life := lf, piece := pp, src := sr, dst := ds } := ⟨_, rfl⟩
        obtain ⟨sl, hsl6, hsl1, hsl2⟩ := HI.out.sl
        have hsp := HPT.out.1 sl (by omega)
        have had := HAD.out sl
        have hdd := HI.out.dst
        have b1 : (0 ≤ sr ∧ sr ≤ 4294967295) ∧ (0 ≤ ds ∧ ds ≤ 4294967295) ∧ ds ≠ 10 := by rcases HQ1.out with ⟨h1, h2, _⟩ | ⟨h1, h2, _⟩ <;> (rw [h1, h2]; omega)
        have b2 : 0 ≤ lf ∧ lf ≤ 255 := by have := HQ2.out; omega
        have b3 : 0 ≤ pp ∧ pp ≤ 255 := by have := HQ3.out; omega
        have bf : 0 ≤ x.fp ∧ x.fp ≤ 65535 := by rw [hsl2]; exact hsp.2.1
        have hM : Mkd y := by rw [hy]; exact ⟨HI.out.md.kd, HI.out.md.tp, HI.out.md.fl, HI.out.md.lb, HI.out.md.cl, HI.out.md.go, HI.out.md.gd, HI.out.md.no, HI.out.md.nd⟩
        obtain ⟨yE, yC, yl1, yl2⟩ := kd_E3 hM (by rw [hy]; exact b2) (by rw [hy]; exact b3) (by rw [hy]; exact b1.1) (by rw [hy]; exact b1.2.1) (by rw [hy]; exact bf)
        obtain ⟨G1, hG1⟩ : ∃ G, G = builtF y := ⟨_, rfl⟩
        obtain ⟨n, hn⟩ : ∃ n, n = lenP y := ⟨_, rfl⟩
        have yq := built_parseE hM.gd hM.go yE
        have ype := built_parse hM.gd hM.go yE yC
        rw [← hG1, ← hn] at yq ype
        have hgB : IsB G1 := by rw [hG1]; exact x_B hM.gd hM.go yE
        have hG0 : G1 0 = x.kind := by rw [hG1, built_hd (by omega), raw_0, hy]
        rw [← hn] at yl1 yl2
        have HN0 := hid (show Nt32 (fun _ => none) from fun j v h => by cases h)
        obtain ⟨tt, htt, htd, htn⟩ := ord_take (nr := fun _ => none) HPT.out HPC.out.1 hgB yq ype hM.kd (by rw [hy]; exact b1.2.2) hM.go hM.lb HN0.out
        have hsE := spo_E hgB yq
        have hsB := spo_B hgB
        have BLD := hid (fun (w : World) (L : List Th) (h : HS [] W w L) (HO : By w AO x.no x.go) (HD : By w AD x.nd x.gd) => (show Calls Tryz.prog 11 #[.agg #[.int .i64 x.kind, .int .i64 lf, .int .i64 pp, .int .i64 sr, .int .i64 ds, .int .i64 x.fp, .int .i64 x.tp, .int .i64 x.flags, .int .i64 x.label, .bool x.bare, .int .i64 x.code, .slice AO x.no cO, .slice AD x.nd cD]] w fun e w' => ∃ A c, e = .returned (.tuple #[.slice A n c, .int .i64 0]) ∧ HS [] W w' (thY (.slice A n c) n G1 :: L) ∧ n ≤ c from c_rbuild h { x with life := lf, piece := pp, src := sr, dst := ds } HI.out.md.kd n G1 (by rw [hn, hy]) (by rw [hG1, hy]) (by rw [← hy]; exact yE) HI.out.md.go HI.out.md.gd (Nat.le_trans HI.out.md.no (by decide)) (Nat.le_trans HI.out.md.nd (by decide)) AO cO AD cD HO HD))
        obtain ⟨fo, hfo⟩ : ∃ o, o = findO p sr x.fp := ⟨_, rfl⟩
        have FND := hid (fun (w : World) => (show Calls Tryz.prog 13 #[.agg (FA 330 (pc p)), .int .i64 sr, .int .i64 x.fp] w fun e w' => e = .returned (fdV fo) ∧ Below w.heap.size w w' from by rw [hfo]; exact rfind_fa p sr x.fp w))
        have hord : ordW p y = if pp ≠ 0 then 6 else if lf ≤ 1 then 7 else if fo.isSome = true then 0 else 8 := by unfold ordW; rw [hy, hfo]
        have hfar : sr = 9999 → fo = none := fun h => by rw [hfo, h]; exact find_far (fun i => (HAD.out i).2) (by decide)
        rw [hord] at htd htn
        have hw : (if fo.isSome = true then w3 else if w3 = 0 then 8 else w3) = if pp ≠ 0 then 6 else if lf ≤ 1 then 7 else if fo.isSome = true then 0 else 8 := ord_w HQ1.out HQ2.out HQ3.out hfar (by intro h; rw [hsl1] at h; omega)
        obtain ⟨W4, hW4⟩ : ∃ z : Int, z = if pp ≠ 0 then 6 else if lf ≤ 1 then 7 else if fo.isSome = true then 0 else 8 := ⟨_, rfl⟩
        rw [← hW4] at htd htn hw
        have hw3 : w3 = 0 ∨ w3 = 6 ∨ w3 = 7 ∨ w3 = 8 := by have q1 := HQ1.out; have q2 := HQ2.out; have q3 := HQ3.out; omega
        have BG := hid hgB
        have SB := hid hsB
        have SE := hid hsE
        have KG := hid hG0
        have TT := hid htt
        have TD := hid htd
        have TN := hid htn
        have HW := hid hw
        have HW3 := hid hw3
        have N24 := hid yl1
        have N15 := hid yl2
        clear hsl1 hsl2 hsp had hdd b1 b2 b3 bf hM yE yC yl1 yl2 hG1 hn yq ype hgB hG0 htt htd htn hsE hsB hfo hord hfar hw hW4 hw3 hy HQ1 HQ2 HQ3
        obtain ⟨y0, y1, y2, y3, y4, y5, y6, y7, y8, y9, y10, y11, y12⟩ := (S9.out.ce 0 rfl).c13
        go_wp2_with fail
        refine (BLD.out _ _ S9.out (S9.out.by_ 1 rfl) (S9.out.byR 2 rfl)).mono ?_
        rintro e w5 ⟨AQ, cQ, rfl, hz, hcc⟩
        have S10 : Hid (HS [] W w5 [thY (.slice AQ n cQ) n G1, thC X [.int .i64 x.kind, .int .i64 lf, .int .i64 pp, .int .i64 sr, .int .i64 ds, .int .i64 x.fp, .int .i64 x.tp, .int .i64 x.flags, .int .i64 x.label, .bool x.bare, .int .i64 x.code, .slice AO x.no cO, .slice AD x.nd cD], thY (.slice AO x.no cO) x.no x.go, thR bD AD x.nd x.gd, thS sb wb p, thB pb 130 (plf sb (fun _ => none)), thB P 330 (pc p)]) := hid (hz)
        clear hz S9 y0 y1 y2 y3 y4 y5 y6 y7 y8 y9 y10 y11 y12 BLD
        have HCQ := hid hcc
        clear hcc
        go_simp
        go_upto_if 61 with (fail)
        go_cut [12] from 58 to 66 (fun v wx => ∃ (G2 : Nat → Int) (w4 : Int), v = .int .i64 w4 ∧ (G2 = G1 ∧ w4 = w3 ∨ G2 = spo G1 ∧ w4 = 4) ∧ HS [] W wx [thY (.slice AQ n cQ) n G2, thC X [.int .i64 x.kind, .int .i64 lf, .int .i64 pp, .int .i64 sr, .int .i64 ds, .int .i64 x.fp, .int .i64 x.tp, .int .i64 x.flags, .int .i64 x.label, .bool x.bare, .int .i64 x.code, .slice AO x.no cO, .slice AD x.nd cD], thY (.slice AO x.no cO) x.no x.go, thR bD AD x.nd x.gd, thS sb wb p, thB pb 130 (plf sb (fun _ => none)), thB P 330 (pc p)])
        case first =>
          obtain ⟨gb, rfl, gl, gc, gf⟩ := row_blk (S10.out.nth 0 rfl) N24.out
          have gx := gc 15 (by have := N24.out; omega)
          have gz := gf 15 (by have := N24.out; omega)
          have n15 : (15 : Int) < n := by have := N24.out; omega
          skip
          cases hb : (bits BinOp.and IntKind.i64 (d0 / 8) 1 == 1)
          · clear hb
            go_wp2_with fail
            go_meet
            exact ⟨G1, w3, rfl, .inl ⟨rfl, rfl⟩, S10.out⟩
          · clear hb
            go_wp2_with fail
            skip
            go_meet
            exact ⟨spo G1, 4, rfl, .inr ⟨rfl, rfl⟩, row_set S10.out 15⟩
        case rest =>
          obtain ⟨G2, w4, rfl, hq4, hz⟩ := hcut
          have S11 : Hid (HS [] W _ [thY (.slice AQ n cQ) n G2, thC X [.int .i64 x.kind, .int .i64 lf, .int .i64 pp, .int .i64 sr, .int .i64 ds, .int .i64 x.fp, .int .i64 x.tp, .int .i64 x.flags, .int .i64 x.label, .bool x.bare, .int .i64 x.code, .slice AO x.no cO, .slice AD x.nd cD], thY (.slice AO x.no cO) x.no x.go, thR bD AD x.nd x.gd, thS sb wb p, thB pb 130 (plf sb (fun _ => none)), thB P 330 (pc p)]) := hid (hz)
          clear hz S10
          have HQ4 := hid hq4
          clear hq4
          go_upto_if 70 with (fail)
          go_cut [12] from 67 to 72 (fun v wx => ∃ (fp_ : Nat → Value) (w5 : Int), v = .int .i64 w5 ∧ (fp_ = plf sb (fun _ => none) ∧ w5 = w4 ∨ fp_ = plc none false nr0 ∧ w5 = 10) ∧ HS [] W wx [thY (.slice AQ n cQ) n G2, thC X [.int .i64 x.kind, .int .i64 lf, .int .i64 pp, .int .i64 sr, .int .i64 ds, .int .i64 x.fp, .int .i64 x.tp, .int .i64 x.flags, .int .i64 x.label, .bool x.bare, .int .i64 x.code, .slice AO x.no cO, .slice AD x.nd cD], thY (.slice AO x.no cO) x.no x.go, thR bD AD x.nd x.gd, thS sb wb p, thB pb 130 fp_, thB P 330 (pc p)])
          case first =>
            cases hb : (bits BinOp.and IntKind.i64 (d0 / 16) 1 == 1)
            · clear hb
              go_wp2_with fail
              go_meet
              exact ⟨_, w4, rfl, .inl ⟨rfl, rfl⟩, S11.out⟩
            · clear hb
              go_wp2_with fail
              refine (c_crash (A := [thY (.slice AQ n cQ) n G2, thC X [.int .i64 x.kind, .int .i64 lf, .int .i64 pp, .int .i64 sr, .int .i64 ds, .int .i64 x.fp, .int .i64 x.tp, .int .i64 x.flags, .int .i64 x.label, .bool x.bare, .int .i64 x.code, .slice AO x.no cO, .slice AD x.nd cD], thY (.slice AO x.no cO) x.no x.go, thR bD AD x.nd x.gd, thS sb wb p]) (B := [thB P 330 (pc p)]) S11.out).mono ?_
              rintro e w6 ⟨rfl, hz⟩
              have U1 := hid hz
              clear hz
              go_simp
              go_wp2_with fail
              go_meet
              exact ⟨_, 10, rfl, .inr ⟨rfl, rfl⟩, U1.out⟩
          case rest =>
            obtain ⟨fp_, w5, rfl, hq5, hz⟩ := hcut
            have S12 : Hid (HS [] W _ [thY (.slice AQ n cQ) n G2, thC X [.int .i64 x.kind, .int .i64 lf, .int .i64 pp, .int .i64 sr, .int .i64 ds, .int .i64 x.fp, .int .i64 x.tp, .int .i64 x.flags, .int .i64 x.label, .bool x.bare, .int .i64 x.code, .slice AO x.no cO, .slice AD x.nd cD], thY (.slice AO x.no cO) x.no x.go, thR bD AD x.nd x.gd, thS sb wb p, thB pb 130 fp_, thB P 330 (pc p)]) := hid (hz)
            clear hz S11
            have HQ5 := hid hq5
            clear hq5
            have y3 := (S12.out.ce 1 rfl).2.1 3 _ rfl
            have y5 := (S12.out.ce 1 rfl).2.1 5 _ rfl
            go_wp2_with ((with_reducible refine wl_id ?_); refine wl_ow rfl (ow_load 6 rfl 0 330 (pc p) rfl rfl S12.out (by omega) (fun j hj => by rw [Nat.zero_add]) Tryz.underlying33 rfl info_pl2 ?_))
            refine (FND.out _).mono ?_
            rintro e w7 ⟨rfl, hb⟩
            have S13 : Hid (HS [] W w7 [thY (.slice AQ n cQ) n G2, thC X [.int .i64 x.kind, .int .i64 lf, .int .i64 pp, .int .i64 sr, .int .i64 ds, .int .i64 x.fp, .int .i64 x.tp, .int .i64 x.flags, .int .i64 x.label, .bool x.bare, .int .i64 x.code, .slice AO x.no cO, .slice AD x.nd cD], thY (.slice AO x.no cO) x.no x.go, thR bD AD x.nd x.gd, thS sb wb p, thB pb 130 fp_, thB P 330 (pc p)]) := hid (S12.out.below hb)
            clear hb S12 y3 y5 FND
            unfold fdV
            go_simp
            obtain ⟨w6, hw6⟩ : ∃ z : Int, z = if fo.isSome = true then w5 else if w5 = 0 then 8 else w5 := ⟨_, rfl⟩
            have HW6 := hid hw6
            clear hw6
            skip
            go_upto_region 24 with (fail)
            cases fo with
            | none =>
              dsimp only [Option.getD, Option.isSome, Option.map] at HW6 HW ⊢
              skip
              skip
              by_cases h50 : w5 = 0
              · have z5 : (w5 == 0) = true := by simp [h50]
                have H50 := hid h50
                clear h50
                have h86 : w6 = 8 := by have h := HW6.out; rw [if_neg (by decide), if_pos H50.out] at h; exact h
                have H86 := hid h86
                clear h86
                go_upto_region 26 with (fail)
                rw [← H86.out]
                clear z5
                rcases HQ5.out with ⟨h5, h6⟩ | ⟨h5, h6⟩
                · have S14 : Hid (HS [] W _ [thY (.slice AQ n cQ) n G2, thC X [.int .i64 x.kind, .int .i64 lf, .int .i64 pp, .int .i64 sr, .int .i64 ds, .int .i64 x.fp, .int .i64 x.tp, .int .i64 x.flags, .int .i64 x.label, .bool x.bare, .int .i64 x.code, .slice AO x.no cO, .slice AD x.nd cD], thY (.slice AO x.no cO) x.no x.go, thR bD AD x.nd x.gd, thS sb wb p, thB pb 130 (plf sb (fun _ => none)), thB P 330 (pc p)]) := hid (by have h := S13.out; rw [h5] at h; exact h)
                  clear h5 S13
                  rcases HQ4.out with ⟨h7, h8⟩ | ⟨h7, h8⟩
                  · have S15 : Hid (HS [] W _ [thY (.slice AQ n cQ) n G1, thC X [.int .i64 x.kind, .int .i64 lf, .int .i64 pp, .int .i64 sr, .int .i64 ds, .int .i64 x.fp, .int .i64 x.tp, .int .i64 x.flags, .int .i64 x.label, .bool x.bare, .int .i64 x.code, .slice AO x.no cO, .slice AD x.nd cD], thY (.slice AO x.no cO) x.no x.go, thR bD AD x.nd x.gd, thS sb wb p, thB pb 130 (plf sb (fun _ => none)), thB P 330 (pc p)]) := hid (by have h := S14.out; rw [h7] at h; exact h)
                    clear h7 S14
                    have HWF := hid (show w6 = W4 from by rw [HW6.out, h6, h8]; exact HW.out)
                    have KG2 := hid KG.out
                    clear h6 h8 HQ4 HQ5
                    go_wp2_with fail
                    refine (c_take (A := [thY (.slice AQ n cQ) n G1, thC X [.int .i64 x.kind, .int .i64 lf, .int .i64 pp, .int .i64 sr, .int .i64 ds, .int .i64 x.fp, .int .i64 x.tp, .int .i64 x.flags, .int .i64 x.label, .bool x.bare, .int .i64 x.code, .slice AO x.no cO, .slice AD x.nd cD], thY (.slice AO x.no cO) x.no x.go, thR bD AD x.nd x.gd, thS sb wb p]) (B := [thB P 330 (pc p)]) S15.out (S15.out.st 4 rfl) HNE.out HPT.out HN0.out G1 n cQ AQ BG.out (Nat.le_trans N15.out (by decide)) (fun _ => by show G1 0 ≠ 3; rw [KG2.out]; rcases HI.out.md.kd with j | j <;> omega) (S15.out.by_ 0 rfl) HCQ.out _ TT.out).mono ?_
                    rintro e w8 ⟨AR, cR, rfl, hz, hcc⟩
                    dsimp only [dropT] at hz hcc ⊢
                    have S16 : Hid (HS [] W w8 [thY (.slice AR tt.n cR) tt.n tt.f, thY (.slice AQ n cQ) n G1, thC X [.int .i64 x.kind, .int .i64 lf, .int .i64 pp, .int .i64 sr, .int .i64 ds, .int .i64 x.fp, .int .i64 x.tp, .int .i64 x.flags, .int .i64 x.label, .bool x.bare, .int .i64 x.code, .slice AO x.no cO, .slice AD x.nd cD], thY (.slice AO x.no cO) x.no x.go, thR bD AD x.nd x.gd, thS sb wb p, thB pb 130 (plf sb tt.nr), thB P 330 (pc p)]) := hid (hz)
                    clear hz hcc S15
                    go_simp
                    go_upto_region 27 with (first | ((with_reducible refine wl_id ?_); refine wl_ow rfl (ow_allocC rfl (zOc _) (by simp) S16.out ?_); intro V w_ hZ _; have SY := hid hZ; clear hZ) | ((with_reducible refine wl_id ?_); refine wl_ow rfl (ow_storeC (A := []) [.int .i64 tt.d, .int .i64 tt.s, .bool tt.c, .slice AR tt.n cR] rfl rfl (rfl) SY.out rfl iOc rfl ?_); intro w_ hZ; have SX := hid hZ; clear hZ))
                    have S17 : Hid (HS [] W _ [thC V [.int .i64 tt.d, .int .i64 tt.s, .bool tt.c, .slice AR tt.n cR], thY (.slice AR tt.n cR) tt.n tt.f, thY (.slice AQ n cQ) n G1, thC X [.int .i64 x.kind, .int .i64 lf, .int .i64 pp, .int .i64 sr, .int .i64 ds, .int .i64 x.fp, .int .i64 x.tp, .int .i64 x.flags, .int .i64 x.label, .bool x.bare, .int .i64 x.code, .slice AO x.no cO, .slice AD x.nd cD], thY (.slice AO x.no cO) x.no x.go, thR bD AD x.nd x.gd, thS sb wb p, thB pb 130 (plf sb tt.nr), thB P 330 (pc p)]) := hid (SX.out)
                    clear SX SY S16
                    obtain ⟨f0, f1, f2, f3⟩ := (S17.out.ce 0 rfl).c4
                    rw [TD.out] at f0
                    have hn := TN.out
                    have n24 := N24.out
                    have e6 : (W4 == w6) = true := by rw [HWF.out]; simp
                    by_cases h0 : W4 = 0
                    · rw [if_pos h0] at hn
                      have e7 : (w6 == 0) = true := by rw [HWF.out, h0]; rfl
                      have e8 : (tt.n : Int) > 0 := by omega
                      have h8 := hid (show 0 < tt.n by omega)
                      have e9 := hid h0
                      clear h0 hn n24
                      go_wp2_with fail
                      go_ret
                      exact ⟨by simp [h8.out], S17.out.bl⟩
                    · rw [if_neg h0] at hn
                      have e7 : (w6 == 0) = false := by rw [HWF.out]; simpa using h0
                      have e8 : ¬ (tt.n : Int) > 0 := by omega
                      have h8 := hid (show tt.n = 0 by omega)
                      clear h0 hn n24
                      go_wp2_with fail
                      go_ret
                      exact ⟨by simp [h8.out], S17.out.bl⟩
                  · have HWF := hid (show w6 = 4 from by rw [HW6.out, h6, h8]; split <;> rfl)
                    have S15 : Hid (HS [] W _ [thY (.slice AQ n cQ) n (spo G1), thC X [.int .i64 x.kind, .int .i64 lf, .int .i64 pp, .int .i64 sr, .int .i64 ds, .int .i64 x.fp, .int .i64 x.tp, .int .i64 x.flags, .int .i64 x.label, .bool x.bare, .int .i64 x.code, .slice AO x.no cO, .slice AD x.nd cD], thY (.slice AO x.no cO) x.no x.go, thR bD AD x.nd x.gd, thS sb wb p, thB pb 130 (plf sb (fun _ => none)), thB P 330 (pc p)]) := hid (by have h := S14.out; rw [h7] at h; exact h)
                    clear h7 S14
                    have KG2 := hid (show spo G1 0 = x.kind from by unfold spo set1; rw [if_neg (by decide)]; exact KG.out)
                    have T4 := hid (show takeT p true (fun _ => none) (spo G1) n = dropT 4 (fun _ => none) from by unfold takeT; dsimp only; rw [if_neg (by simp), SE.out, if_pos (by decide)])
                    clear h6 h8 HQ4 HQ5
                    go_wp2_with fail
                    refine (c_take (A := [thY (.slice AQ n cQ) n (spo G1), thC X [.int .i64 x.kind, .int .i64 lf, .int .i64 pp, .int .i64 sr, .int .i64 ds, .int .i64 x.fp, .int .i64 x.tp, .int .i64 x.flags, .int .i64 x.label, .bool x.bare, .int .i64 x.code, .slice AO x.no cO, .slice AD x.nd cD], thY (.slice AO x.no cO) x.no x.go, thR bD AD x.nd x.gd, thS sb wb p]) (B := [thB P 330 (pc p)]) S15.out (S15.out.st 4 rfl) HNE.out HPT.out HN0.out (spo G1) n cQ AQ SB.out (Nat.le_trans N15.out (by decide)) (fun _ => by show (spo G1) 0 ≠ 3; rw [KG2.out]; rcases HI.out.md.kd with j | j <;> omega) (S15.out.by_ 0 rfl) HCQ.out _ T4.out).mono ?_
                    rintro e w8 ⟨AR, cR, rfl, hz, hcc⟩
                    dsimp only [dropT] at hz hcc ⊢
                    have S16 : Hid (HS [] W w8 [thY (.slice AR 0 cR) 0 (fun _ => 0), thY (.slice AQ n cQ) n (spo G1), thC X [.int .i64 x.kind, .int .i64 lf, .int .i64 pp, .int .i64 sr, .int .i64 ds, .int .i64 x.fp, .int .i64 x.tp, .int .i64 x.flags, .int .i64 x.label, .bool x.bare, .int .i64 x.code, .slice AO x.no cO, .slice AD x.nd cD], thY (.slice AO x.no cO) x.no x.go, thR bD AD x.nd x.gd, thS sb wb p, thB pb 130 (plf sb (fun _ => none)), thB P 330 (pc p)]) := hid (hz)
                    clear hz hcc S15
                    go_simp
                    go_upto_region 27 with (first | ((with_reducible refine wl_id ?_); refine wl_ow rfl (ow_allocC rfl (zOc _) (by simp) S16.out ?_); intro V w_ hZ _; have SY := hid hZ; clear hZ) | ((with_reducible refine wl_id ?_); refine wl_ow rfl (ow_storeC (A := []) [.int .i64 4, .int .i64 (-1), .bool false, .slice AR 0 cR] rfl rfl (rfl) SY.out rfl iOc rfl ?_); intro w_ hZ; have SX := hid hZ; clear hZ))
                    have S17 : Hid (HS [] W _ [thC V [.int .i64 4, .int .i64 (-1), .bool false, .slice AR 0 cR], thY (.slice AR 0 cR) 0 (fun _ => 0), thY (.slice AQ n cQ) n (spo G1), thC X [.int .i64 x.kind, .int .i64 lf, .int .i64 pp, .int .i64 sr, .int .i64 ds, .int .i64 x.fp, .int .i64 x.tp, .int .i64 x.flags, .int .i64 x.label, .bool x.bare, .int .i64 x.code, .slice AO x.no cO, .slice AD x.nd cD], thY (.slice AO x.no cO) x.no x.go, thR bD AD x.nd x.gd, thS sb wb p, thB pb 130 (plf sb (fun _ => none)), thB P 330 (pc p)]) := hid (SX.out)
                    clear SX SY S16
                    obtain ⟨f0, f1, f2, f3⟩ := (S17.out.ce 0 rfl).c4
                    have e6 : (4 == w6) = true := by rw [HWF.out]; rfl
                    have e7 : (w6 == 0) = false := by rw [HWF.out]; rfl
                    go_wp2_with fail
                    go_ret
                    exact ⟨by simp, S17.out.bl⟩
                · have HWF := hid (show w6 = 10 from by rw [HW6.out, h6]; split <;> rfl)
                  have S14 : Hid (HS [] W _ [thY (.slice AQ n cQ) n G2, thC X [.int .i64 x.kind, .int .i64 lf, .int .i64 pp, .int .i64 sr, .int .i64 ds, .int .i64 x.fp, .int .i64 x.tp, .int .i64 x.flags, .int .i64 x.label, .bool x.bare, .int .i64 x.code, .slice AO x.no cO, .slice AD x.nd cD], thY (.slice AO x.no cO) x.no x.go, thR bD AD x.nd x.gd, thS sb wb p, thB pb 130 (plc none false nr0), thB P 330 (pc p)]) := hid (by have h := S13.out; rw [h5] at h; exact h)
                  clear h5 S13
                  clear h6 HQ4 HQ5
                  go_wp2_with fail
                  refine (take_dn (S14.out.fb 5 rfl) _).mono ?_
                  rintro e w8 ⟨rfl, hb⟩
                  have S15 : Hid (HS [] W w8 [thY (.slice AQ n cQ) n G2, thC X [.int .i64 x.kind, .int .i64 lf, .int .i64 pp, .int .i64 sr, .int .i64 ds, .int .i64 x.fp, .int .i64 x.tp, .int .i64 x.flags, .int .i64 x.label, .bool x.bare, .int .i64 x.code, .slice AO x.no cO, .slice AD x.nd cD], thY (.slice AO x.no cO) x.no x.go, thR bD AD x.nd x.gd, thS sb wb p, thB pb 130 (plc none false nr0), thB P 330 (pc p)]) := hid (S14.out.below hb)
                  clear hb S14
                  go_simp
                  go_upto_region 27 with (first | ((with_reducible refine wl_id ?_); refine wl_ow rfl (ow_allocC rfl (zOc _) (by simp) S15.out ?_); intro V w_ hZ _; have SY := hid hZ; clear hZ) | ((with_reducible refine wl_id ?_); refine wl_ow rfl (ow_storeC (A := []) [.int .i64 10, .int .i64 (-1), .bool false, .slice none 0 0] rfl rfl (rfl) SY.out rfl iOc rfl ?_); intro w_ hZ; have SX := hid hZ; clear hZ))
                  have S16 : Hid (HS [] W _ [thC V [.int .i64 10, .int .i64 (-1), .bool false, .slice none 0 0], thY (.slice AQ n cQ) n G2, thC X [.int .i64 x.kind, .int .i64 lf, .int .i64 pp, .int .i64 sr, .int .i64 ds, .int .i64 x.fp, .int .i64 x.tp, .int .i64 x.flags, .int .i64 x.label, .bool x.bare, .int .i64 x.code, .slice AO x.no cO, .slice AD x.nd cD], thY (.slice AO x.no cO) x.no x.go, thR bD AD x.nd x.gd, thS sb wb p, thB pb 130 (plc none false nr0), thB P 330 (pc p)]) := hid (SX.out)
                  clear SX SY S15
                  obtain ⟨f0, f1, f2, f3⟩ := (S16.out.ce 0 rfl).c4
                  have e6 : (10 == w6) = true := by rw [HWF.out]; rfl
                  have e7 : (w6 == 0) = false := by rw [HWF.out]; rfl
                  go_wp2_with fail
                  go_ret
                  exact ⟨by simp, S16.out.bl⟩
              · have z5 : (w5 == 0) = false := by simp [h50]
                have H50 := hid h50
                clear h50
                have h86 : w6 = w5 := by have h := HW6.out; rw [if_neg (by decide), if_neg H50.out] at h; exact h
                have H86 := hid h86
                clear h86
                go_upto_region 26 with (fail)
                rw [← H86.out]
                clear z5
                rcases HQ5.out with ⟨h5, h6⟩ | ⟨h5, h6⟩
                · have S14 : Hid (HS [] W _ [thY (.slice AQ n cQ) n G2, thC X [.int .i64 x.kind, .int .i64 lf, .int .i64 pp, .int .i64 sr, .int .i64 ds, .int .i64 x.fp, .int .i64 x.tp, .int .i64 x.flags, .int .i64 x.label, .bool x.bare, .int .i64 x.code, .slice AO x.no cO, .slice AD x.nd cD], thY (.slice AO x.no cO) x.no x.go, thR bD AD x.nd x.gd, thS sb wb p, thB pb 130 (plf sb (fun _ => none)), thB P 330 (pc p)]) := hid (by have h := S13.out; rw [h5] at h; exact h)
                  clear h5 S13
                  rcases HQ4.out with ⟨h7, h8⟩ | ⟨h7, h8⟩
                  · have S15 : Hid (HS [] W _ [thY (.slice AQ n cQ) n G1, thC X [.int .i64 x.kind, .int .i64 lf, .int .i64 pp, .int .i64 sr, .int .i64 ds, .int .i64 x.fp, .int .i64 x.tp, .int .i64 x.flags, .int .i64 x.label, .bool x.bare, .int .i64 x.code, .slice AO x.no cO, .slice AD x.nd cD], thY (.slice AO x.no cO) x.no x.go, thR bD AD x.nd x.gd, thS sb wb p, thB pb 130 (plf sb (fun _ => none)), thB P 330 (pc p)]) := hid (by have h := S14.out; rw [h7] at h; exact h)
                    clear h7 S14
                    have HWF := hid (show w6 = W4 from by rw [HW6.out, h6, h8]; exact HW.out)
                    have KG2 := hid KG.out
                    clear h6 h8 HQ4 HQ5
                    go_wp2_with fail
                    refine (c_take (A := [thY (.slice AQ n cQ) n G1, thC X [.int .i64 x.kind, .int .i64 lf, .int .i64 pp, .int .i64 sr, .int .i64 ds, .int .i64 x.fp, .int .i64 x.tp, .int .i64 x.flags, .int .i64 x.label, .bool x.bare, .int .i64 x.code, .slice AO x.no cO, .slice AD x.nd cD], thY (.slice AO x.no cO) x.no x.go, thR bD AD x.nd x.gd, thS sb wb p]) (B := [thB P 330 (pc p)]) S15.out (S15.out.st 4 rfl) HNE.out HPT.out HN0.out G1 n cQ AQ BG.out (Nat.le_trans N15.out (by decide)) (fun _ => by show G1 0 ≠ 3; rw [KG2.out]; rcases HI.out.md.kd with j | j <;> omega) (S15.out.by_ 0 rfl) HCQ.out _ TT.out).mono ?_
                    rintro e w8 ⟨AR, cR, rfl, hz, hcc⟩
                    dsimp only [dropT] at hz hcc ⊢
                    have S16 : Hid (HS [] W w8 [thY (.slice AR tt.n cR) tt.n tt.f, thY (.slice AQ n cQ) n G1, thC X [.int .i64 x.kind, .int .i64 lf, .int .i64 pp, .int .i64 sr, .int .i64 ds, .int .i64 x.fp, .int .i64 x.tp, .int .i64 x.flags, .int .i64 x.label, .bool x.bare, .int .i64 x.code, .slice AO x.no cO, .slice AD x.nd cD], thY (.slice AO x.no cO) x.no x.go, thR bD AD x.nd x.gd, thS sb wb p, thB pb 130 (plf sb tt.nr), thB P 330 (pc p)]) := hid (hz)
                    clear hz hcc S15
                    go_simp
                    go_upto_region 27 with (first | ((with_reducible refine wl_id ?_); refine wl_ow rfl (ow_allocC rfl (zOc _) (by simp) S16.out ?_); intro V w_ hZ _; have SY := hid hZ; clear hZ) | ((with_reducible refine wl_id ?_); refine wl_ow rfl (ow_storeC (A := []) [.int .i64 tt.d, .int .i64 tt.s, .bool tt.c, .slice AR tt.n cR] rfl rfl (rfl) SY.out rfl iOc rfl ?_); intro w_ hZ; have SX := hid hZ; clear hZ))
                    have S17 : Hid (HS [] W _ [thC V [.int .i64 tt.d, .int .i64 tt.s, .bool tt.c, .slice AR tt.n cR], thY (.slice AR tt.n cR) tt.n tt.f, thY (.slice AQ n cQ) n G1, thC X [.int .i64 x.kind, .int .i64 lf, .int .i64 pp, .int .i64 sr, .int .i64 ds, .int .i64 x.fp, .int .i64 x.tp, .int .i64 x.flags, .int .i64 x.label, .bool x.bare, .int .i64 x.code, .slice AO x.no cO, .slice AD x.nd cD], thY (.slice AO x.no cO) x.no x.go, thR bD AD x.nd x.gd, thS sb wb p, thB pb 130 (plf sb tt.nr), thB P 330 (pc p)]) := hid (SX.out)
                    clear SX SY S16
                    obtain ⟨f0, f1, f2, f3⟩ := (S17.out.ce 0 rfl).c4
                    rw [TD.out] at f0
                    have hn := TN.out
                    have n24 := N24.out
                    have e6 : (W4 == w6) = true := by rw [HWF.out]; simp
                    by_cases h0 : W4 = 0
                    · rw [if_pos h0] at hn
                      have e7 : (w6 == 0) = true := by rw [HWF.out, h0]; rfl
                      have e8 : (tt.n : Int) > 0 := by omega
                      have h8 := hid (show 0 < tt.n by omega)
                      have e9 := hid h0
                      clear h0 hn n24
                      go_wp2_with fail
                      go_ret
                      exact ⟨by simp [h8.out], S17.out.bl⟩
                    · rw [if_neg h0] at hn
                      have e7 : (w6 == 0) = false := by rw [HWF.out]; simpa using h0
                      have e8 : ¬ (tt.n : Int) > 0 := by omega
                      have h8 := hid (show tt.n = 0 by omega)
                      clear h0 hn n24
                      go_wp2_with fail
                      go_ret
                      exact ⟨by simp [h8.out], S17.out.bl⟩
                  · have HWF := hid (show w6 = 4 from by rw [HW6.out, h6, h8]; split <;> rfl)
                    have S15 : Hid (HS [] W _ [thY (.slice AQ n cQ) n (spo G1), thC X [.int .i64 x.kind, .int .i64 lf, .int .i64 pp, .int .i64 sr, .int .i64 ds, .int .i64 x.fp, .int .i64 x.tp, .int .i64 x.flags, .int .i64 x.label, .bool x.bare, .int .i64 x.code, .slice AO x.no cO, .slice AD x.nd cD], thY (.slice AO x.no cO) x.no x.go, thR bD AD x.nd x.gd, thS sb wb p, thB pb 130 (plf sb (fun _ => none)), thB P 330 (pc p)]) := hid (by have h := S14.out; rw [h7] at h; exact h)
                    clear h7 S14
                    have KG2 := hid (show spo G1 0 = x.kind from by unfold spo set1; rw [if_neg (by decide)]; exact KG.out)
                    have T4 := hid (show takeT p true (fun _ => none) (spo G1) n = dropT 4 (fun _ => none) from by unfold takeT; dsimp only; rw [if_neg (by simp), SE.out, if_pos (by decide)])
                    clear h6 h8 HQ4 HQ5
                    go_wp2_with fail
                    refine (c_take (A := [thY (.slice AQ n cQ) n (spo G1), thC X [.int .i64 x.kind, .int .i64 lf, .int .i64 pp, .int .i64 sr, .int .i64 ds, .int .i64 x.fp, .int .i64 x.tp, .int .i64 x.flags, .int .i64 x.label, .bool x.bare, .int .i64 x.code, .slice AO x.no cO, .slice AD x.nd cD], thY (.slice AO x.no cO) x.no x.go, thR bD AD x.nd x.gd, thS sb wb p]) (B := [thB P 330 (pc p)]) S15.out (S15.out.st 4 rfl) HNE.out HPT.out HN0.out (spo G1) n cQ AQ SB.out (Nat.le_trans N15.out (by decide)) (fun _ => by show (spo G1) 0 ≠ 3; rw [KG2.out]; rcases HI.out.md.kd with j | j <;> omega) (S15.out.by_ 0 rfl) HCQ.out _ T4.out).mono ?_
                    rintro e w8 ⟨AR, cR, rfl, hz, hcc⟩
                    dsimp only [dropT] at hz hcc ⊢
                    have S16 : Hid (HS [] W w8 [thY (.slice AR 0 cR) 0 (fun _ => 0), thY (.slice AQ n cQ) n (spo G1), thC X [.int .i64 x.kind, .int .i64 lf, .int .i64 pp, .int .i64 sr, .int .i64 ds, .int .i64 x.fp, .int .i64 x.tp, .int .i64 x.flags, .int .i64 x.label, .bool x.bare, .int .i64 x.code, .slice AO x.no cO, .slice AD x.nd cD], thY (.slice AO x.no cO) x.no x.go, thR bD AD x.nd x.gd, thS sb wb p, thB pb 130 (plf sb (fun _ => none)), thB P 330 (pc p)]) := hid (hz)
                    clear hz hcc S15
                    go_simp
                    go_upto_region 27 with (first | ((with_reducible refine wl_id ?_); refine wl_ow rfl (ow_allocC rfl (zOc _) (by simp) S16.out ?_); intro V w_ hZ _; have SY := hid hZ; clear hZ) | ((with_reducible refine wl_id ?_); refine wl_ow rfl (ow_storeC (A := []) [.int .i64 4, .int .i64 (-1), .bool false, .slice AR 0 cR] rfl rfl (rfl) SY.out rfl iOc rfl ?_); intro w_ hZ; have SX := hid hZ; clear hZ))
                    have S17 : Hid (HS [] W _ [thC V [.int .i64 4, .int .i64 (-1), .bool false, .slice AR 0 cR], thY (.slice AR 0 cR) 0 (fun _ => 0), thY (.slice AQ n cQ) n (spo G1), thC X [.int .i64 x.kind, .int .i64 lf, .int .i64 pp, .int .i64 sr, .int .i64 ds, .int .i64 x.fp, .int .i64 x.tp, .int .i64 x.flags, .int .i64 x.label, .bool x.bare, .int .i64 x.code, .slice AO x.no cO, .slice AD x.nd cD], thY (.slice AO x.no cO) x.no x.go, thR bD AD x.nd x.gd, thS sb wb p, thB pb 130 (plf sb (fun _ => none)), thB P 330 (pc p)]) := hid (SX.out)
                    clear SX SY S16
                    obtain ⟨f0, f1, f2, f3⟩ := (S17.out.ce 0 rfl).c4
                    have e6 : (4 == w6) = true := by rw [HWF.out]; rfl
                    have e7 : (w6 == 0) = false := by rw [HWF.out]; rfl
                    go_wp2_with fail
                    go_ret
                    exact ⟨by simp, S17.out.bl⟩
                · have HWF := hid (show w6 = 10 from by rw [HW6.out, h6]; split <;> rfl)
                  have S14 : Hid (HS [] W _ [thY (.slice AQ n cQ) n G2, thC X [.int .i64 x.kind, .int .i64 lf, .int .i64 pp, .int .i64 sr, .int .i64 ds, .int .i64 x.fp, .int .i64 x.tp, .int .i64 x.flags, .int .i64 x.label, .bool x.bare, .int .i64 x.code, .slice AO x.no cO, .slice AD x.nd cD], thY (.slice AO x.no cO) x.no x.go, thR bD AD x.nd x.gd, thS sb wb p, thB pb 130 (plc none false nr0), thB P 330 (pc p)]) := hid (by have h := S13.out; rw [h5] at h; exact h)
                  clear h5 S13
                  clear h6 HQ4 HQ5
                  go_wp2_with fail
                  refine (take_dn (S14.out.fb 5 rfl) _).mono ?_
                  rintro e w8 ⟨rfl, hb⟩
                  have S15 : Hid (HS [] W w8 [thY (.slice AQ n cQ) n G2, thC X [.int .i64 x.kind, .int .i64 lf, .int .i64 pp, .int .i64 sr, .int .i64 ds, .int .i64 x.fp, .int .i64 x.tp, .int .i64 x.flags, .int .i64 x.label, .bool x.bare, .int .i64 x.code, .slice AO x.no cO, .slice AD x.nd cD], thY (.slice AO x.no cO) x.no x.go, thR bD AD x.nd x.gd, thS sb wb p, thB pb 130 (plc none false nr0), thB P 330 (pc p)]) := hid (S14.out.below hb)
                  clear hb S14
                  go_simp
                  go_upto_region 27 with (first | ((with_reducible refine wl_id ?_); refine wl_ow rfl (ow_allocC rfl (zOc _) (by simp) S15.out ?_); intro V w_ hZ _; have SY := hid hZ; clear hZ) | ((with_reducible refine wl_id ?_); refine wl_ow rfl (ow_storeC (A := []) [.int .i64 10, .int .i64 (-1), .bool false, .slice none 0 0] rfl rfl (rfl) SY.out rfl iOc rfl ?_); intro w_ hZ; have SX := hid hZ; clear hZ))
                  have S16 : Hid (HS [] W _ [thC V [.int .i64 10, .int .i64 (-1), .bool false, .slice none 0 0], thY (.slice AQ n cQ) n G2, thC X [.int .i64 x.kind, .int .i64 lf, .int .i64 pp, .int .i64 sr, .int .i64 ds, .int .i64 x.fp, .int .i64 x.tp, .int .i64 x.flags, .int .i64 x.label, .bool x.bare, .int .i64 x.code, .slice AO x.no cO, .slice AD x.nd cD], thY (.slice AO x.no cO) x.no x.go, thR bD AD x.nd x.gd, thS sb wb p, thB pb 130 (plc none false nr0), thB P 330 (pc p)]) := hid (SX.out)
                  clear SX SY S15
                  obtain ⟨f0, f1, f2, f3⟩ := (S16.out.ce 0 rfl).c4
                  have e6 : (10 == w6) = true := by rw [HWF.out]; rfl
                  have e7 : (w6 == 0) = false := by rw [HWF.out]; rfl
                  go_wp2_with fail
                  go_ret
                  exact ⟨by simp, S16.out.bl⟩
            | some s =>
              dsimp only [Option.getD, Option.isSome, Option.map] at HW6 HW ⊢
              skip
              skip
              have h86 : w6 = w5 := by have h := HW6.out; rw [if_pos rfl] at h; exact h
              have H86 := hid h86
              clear h86
              go_upto_region 26 with (fail)
              rw [← H86.out]
              rcases HQ5.out with ⟨h5, h6⟩ | ⟨h5, h6⟩
              · have S14 : Hid (HS [] W _ [thY (.slice AQ n cQ) n G2, thC X [.int .i64 x.kind, .int .i64 lf, .int .i64 pp, .int .i64 sr, .int .i64 ds, .int .i64 x.fp, .int .i64 x.tp, .int .i64 x.flags, .int .i64 x.label, .bool x.bare, .int .i64 x.code, .slice AO x.no cO, .slice AD x.nd cD], thY (.slice AO x.no cO) x.no x.go, thR bD AD x.nd x.gd, thS sb wb p, thB pb 130 (plf sb (fun _ => none)), thB P 330 (pc p)]) := hid (by have h := S13.out; rw [h5] at h; exact h)
                clear h5 S13
                rcases HQ4.out with ⟨h7, h8⟩ | ⟨h7, h8⟩
                · have S15 : Hid (HS [] W _ [thY (.slice AQ n cQ) n G1, thC X [.int .i64 x.kind, .int .i64 lf, .int .i64 pp, .int .i64 sr, .int .i64 ds, .int .i64 x.fp, .int .i64 x.tp, .int .i64 x.flags, .int .i64 x.label, .bool x.bare, .int .i64 x.code, .slice AO x.no cO, .slice AD x.nd cD], thY (.slice AO x.no cO) x.no x.go, thR bD AD x.nd x.gd, thS sb wb p, thB pb 130 (plf sb (fun _ => none)), thB P 330 (pc p)]) := hid (by have h := S14.out; rw [h7] at h; exact h)
                  clear h7 S14
                  have HWF := hid (show w6 = W4 from by rw [HW6.out, h6, h8]; exact HW.out)
                  have KG2 := hid KG.out
                  clear h6 h8 HQ4 HQ5
                  go_wp2_with fail
                  refine (c_take (A := [thY (.slice AQ n cQ) n G1, thC X [.int .i64 x.kind, .int .i64 lf, .int .i64 pp, .int .i64 sr, .int .i64 ds, .int .i64 x.fp, .int .i64 x.tp, .int .i64 x.flags, .int .i64 x.label, .bool x.bare, .int .i64 x.code, .slice AO x.no cO, .slice AD x.nd cD], thY (.slice AO x.no cO) x.no x.go, thR bD AD x.nd x.gd, thS sb wb p]) (B := [thB P 330 (pc p)]) S15.out (S15.out.st 4 rfl) HNE.out HPT.out HN0.out G1 n cQ AQ BG.out (Nat.le_trans N15.out (by decide)) (fun _ => by show G1 0 ≠ 3; rw [KG2.out]; rcases HI.out.md.kd with j | j <;> omega) (S15.out.by_ 0 rfl) HCQ.out _ TT.out).mono ?_
                  rintro e w8 ⟨AR, cR, rfl, hz, hcc⟩
                  dsimp only [dropT] at hz hcc ⊢
                  have S16 : Hid (HS [] W w8 [thY (.slice AR tt.n cR) tt.n tt.f, thY (.slice AQ n cQ) n G1, thC X [.int .i64 x.kind, .int .i64 lf, .int .i64 pp, .int .i64 sr, .int .i64 ds, .int .i64 x.fp, .int .i64 x.tp, .int .i64 x.flags, .int .i64 x.label, .bool x.bare, .int .i64 x.code, .slice AO x.no cO, .slice AD x.nd cD], thY (.slice AO x.no cO) x.no x.go, thR bD AD x.nd x.gd, thS sb wb p, thB pb 130 (plf sb tt.nr), thB P 330 (pc p)]) := hid (hz)
                  clear hz hcc S15
                  go_simp
                  go_upto_region 27 with (first | ((with_reducible refine wl_id ?_); refine wl_ow rfl (ow_allocC rfl (zOc _) (by simp) S16.out ?_); intro V w_ hZ _; have SY := hid hZ; clear hZ) | ((with_reducible refine wl_id ?_); refine wl_ow rfl (ow_storeC (A := []) [.int .i64 tt.d, .int .i64 tt.s, .bool tt.c, .slice AR tt.n cR] rfl rfl (rfl) SY.out rfl iOc rfl ?_); intro w_ hZ; have SX := hid hZ; clear hZ))
                  have S17 : Hid (HS [] W _ [thC V [.int .i64 tt.d, .int .i64 tt.s, .bool tt.c, .slice AR tt.n cR], thY (.slice AR tt.n cR) tt.n tt.f, thY (.slice AQ n cQ) n G1, thC X [.int .i64 x.kind, .int .i64 lf, .int .i64 pp, .int .i64 sr, .int .i64 ds, .int .i64 x.fp, .int .i64 x.tp, .int .i64 x.flags, .int .i64 x.label, .bool x.bare, .int .i64 x.code, .slice AO x.no cO, .slice AD x.nd cD], thY (.slice AO x.no cO) x.no x.go, thR bD AD x.nd x.gd, thS sb wb p, thB pb 130 (plf sb tt.nr), thB P 330 (pc p)]) := hid (SX.out)
                  clear SX SY S16
                  obtain ⟨f0, f1, f2, f3⟩ := (S17.out.ce 0 rfl).c4
                  rw [TD.out] at f0
                  have hn := TN.out
                  have n24 := N24.out
                  have e6 : (W4 == w6) = true := by rw [HWF.out]; simp
                  by_cases h0 : W4 = 0
                  · rw [if_pos h0] at hn
                    have e7 : (w6 == 0) = true := by rw [HWF.out, h0]; rfl
                    have e8 : (tt.n : Int) > 0 := by omega
                    have h8 := hid (show 0 < tt.n by omega)
                    have e9 := hid h0
                    clear h0 hn n24
                    go_wp2_with fail
                    go_ret
                    exact ⟨by simp [h8.out], S17.out.bl⟩
                  · rw [if_neg h0] at hn
                    have e7 : (w6 == 0) = false := by rw [HWF.out]; simpa using h0
                    have e8 : ¬ (tt.n : Int) > 0 := by omega
                    have h8 := hid (show tt.n = 0 by omega)
                    clear h0 hn n24
                    go_wp2_with fail
                    go_ret
                    exact ⟨by simp [h8.out], S17.out.bl⟩
                · have HWF := hid (show w6 = 4 from by rw [HW6.out, h6, h8]; split <;> rfl)
                  have S15 : Hid (HS [] W _ [thY (.slice AQ n cQ) n (spo G1), thC X [.int .i64 x.kind, .int .i64 lf, .int .i64 pp, .int .i64 sr, .int .i64 ds, .int .i64 x.fp, .int .i64 x.tp, .int .i64 x.flags, .int .i64 x.label, .bool x.bare, .int .i64 x.code, .slice AO x.no cO, .slice AD x.nd cD], thY (.slice AO x.no cO) x.no x.go, thR bD AD x.nd x.gd, thS sb wb p, thB pb 130 (plf sb (fun _ => none)), thB P 330 (pc p)]) := hid (by have h := S14.out; rw [h7] at h; exact h)
                  clear h7 S14
                  have KG2 := hid (show spo G1 0 = x.kind from by unfold spo set1; rw [if_neg (by decide)]; exact KG.out)
                  have T4 := hid (show takeT p true (fun _ => none) (spo G1) n = dropT 4 (fun _ => none) from by unfold takeT; dsimp only; rw [if_neg (by simp), SE.out, if_pos (by decide)])
                  clear h6 h8 HQ4 HQ5
                  go_wp2_with fail
                  refine (c_take (A := [thY (.slice AQ n cQ) n (spo G1), thC X [.int .i64 x.kind, .int .i64 lf, .int .i64 pp, .int .i64 sr, .int .i64 ds, .int .i64 x.fp, .int .i64 x.tp, .int .i64 x.flags, .int .i64 x.label, .bool x.bare, .int .i64 x.code, .slice AO x.no cO, .slice AD x.nd cD], thY (.slice AO x.no cO) x.no x.go, thR bD AD x.nd x.gd, thS sb wb p]) (B := [thB P 330 (pc p)]) S15.out (S15.out.st 4 rfl) HNE.out HPT.out HN0.out (spo G1) n cQ AQ SB.out (Nat.le_trans N15.out (by decide)) (fun _ => by show (spo G1) 0 ≠ 3; rw [KG2.out]; rcases HI.out.md.kd with j | j <;> omega) (S15.out.by_ 0 rfl) HCQ.out _ T4.out).mono ?_
                  rintro e w8 ⟨AR, cR, rfl, hz, hcc⟩
                  dsimp only [dropT] at hz hcc ⊢
                  have S16 : Hid (HS [] W w8 [thY (.slice AR 0 cR) 0 (fun _ => 0), thY (.slice AQ n cQ) n (spo G1), thC X [.int .i64 x.kind, .int .i64 lf, .int .i64 pp, .int .i64 sr, .int .i64 ds, .int .i64 x.fp, .int .i64 x.tp, .int .i64 x.flags, .int .i64 x.label, .bool x.bare, .int .i64 x.code, .slice AO x.no cO, .slice AD x.nd cD], thY (.slice AO x.no cO) x.no x.go, thR bD AD x.nd x.gd, thS sb wb p, thB pb 130 (plf sb (fun _ => none)), thB P 330 (pc p)]) := hid (hz)
                  clear hz hcc S15
                  go_simp
                  go_upto_region 27 with (first | ((with_reducible refine wl_id ?_); refine wl_ow rfl (ow_allocC rfl (zOc _) (by simp) S16.out ?_); intro V w_ hZ _; have SY := hid hZ; clear hZ) | ((with_reducible refine wl_id ?_); refine wl_ow rfl (ow_storeC (A := []) [.int .i64 4, .int .i64 (-1), .bool false, .slice AR 0 cR] rfl rfl (rfl) SY.out rfl iOc rfl ?_); intro w_ hZ; have SX := hid hZ; clear hZ))
                  have S17 : Hid (HS [] W _ [thC V [.int .i64 4, .int .i64 (-1), .bool false, .slice AR 0 cR], thY (.slice AR 0 cR) 0 (fun _ => 0), thY (.slice AQ n cQ) n (spo G1), thC X [.int .i64 x.kind, .int .i64 lf, .int .i64 pp, .int .i64 sr, .int .i64 ds, .int .i64 x.fp, .int .i64 x.tp, .int .i64 x.flags, .int .i64 x.label, .bool x.bare, .int .i64 x.code, .slice AO x.no cO, .slice AD x.nd cD], thY (.slice AO x.no cO) x.no x.go, thR bD AD x.nd x.gd, thS sb wb p, thB pb 130 (plf sb (fun _ => none)), thB P 330 (pc p)]) := hid (SX.out)
                  clear SX SY S16
                  obtain ⟨f0, f1, f2, f3⟩ := (S17.out.ce 0 rfl).c4
                  have e6 : (4 == w6) = true := by rw [HWF.out]; rfl
                  have e7 : (w6 == 0) = false := by rw [HWF.out]; rfl
                  go_wp2_with fail
                  go_ret
                  exact ⟨by simp, S17.out.bl⟩
              · have HWF := hid (show w6 = 10 from by rw [HW6.out, h6]; split <;> rfl)
                have S14 : Hid (HS [] W _ [thY (.slice AQ n cQ) n G2, thC X [.int .i64 x.kind, .int .i64 lf, .int .i64 pp, .int .i64 sr, .int .i64 ds, .int .i64 x.fp, .int .i64 x.tp, .int .i64 x.flags, .int .i64 x.label, .bool x.bare, .int .i64 x.code, .slice AO x.no cO, .slice AD x.nd cD], thY (.slice AO x.no cO) x.no x.go, thR bD AD x.nd x.gd, thS sb wb p, thB pb 130 (plc none false nr0), thB P 330 (pc p)]) := hid (by have h := S13.out; rw [h5] at h; exact h)
                clear h5 S13
                clear h6 HQ4 HQ5
                go_wp2_with fail
                refine (take_dn (S14.out.fb 5 rfl) _).mono ?_
                rintro e w8 ⟨rfl, hb⟩
                have S15 : Hid (HS [] W w8 [thY (.slice AQ n cQ) n G2, thC X [.int .i64 x.kind, .int .i64 lf, .int .i64 pp, .int .i64 sr, .int .i64 ds, .int .i64 x.fp, .int .i64 x.tp, .int .i64 x.flags, .int .i64 x.label, .bool x.bare, .int .i64 x.code, .slice AO x.no cO, .slice AD x.nd cD], thY (.slice AO x.no cO) x.no x.go, thR bD AD x.nd x.gd, thS sb wb p, thB pb 130 (plc none false nr0), thB P 330 (pc p)]) := hid (S14.out.below hb)
                clear hb S14
                go_simp
                go_upto_region 27 with (first | ((with_reducible refine wl_id ?_); refine wl_ow rfl (ow_allocC rfl (zOc _) (by simp) S15.out ?_); intro V w_ hZ _; have SY := hid hZ; clear hZ) | ((with_reducible refine wl_id ?_); refine wl_ow rfl (ow_storeC (A := []) [.int .i64 10, .int .i64 (-1), .bool false, .slice none 0 0] rfl rfl (rfl) SY.out rfl iOc rfl ?_); intro w_ hZ; have SX := hid hZ; clear hZ))
                have S16 : Hid (HS [] W _ [thC V [.int .i64 10, .int .i64 (-1), .bool false, .slice none 0 0], thY (.slice AQ n cQ) n G2, thC X [.int .i64 x.kind, .int .i64 lf, .int .i64 pp, .int .i64 sr, .int .i64 ds, .int .i64 x.fp, .int .i64 x.tp, .int .i64 x.flags, .int .i64 x.label, .bool x.bare, .int .i64 x.code, .slice AO x.no cO, .slice AD x.nd cD], thY (.slice AO x.no cO) x.no x.go, thR bD AD x.nd x.gd, thS sb wb p, thB pb 130 (plc none false nr0), thB P 330 (pc p)]) := hid (SX.out)
                clear SX SY S15
                obtain ⟨f0, f1, f2, f3⟩ := (S16.out.ce 0 rfl).c4
                have e6 : (10 == w6) = true := by rw [HWF.out]; rfl
                have e7 : (w6 == 0) = false := by rw [HWF.out]; rfl
                go_wp2_with fail
                go_ret
                exact ⟨by simp, S16.out.bl⟩

set_option maxRecDepth 100000 in
theorem lifted (os : Os) (started : os.Started) (H : Type) (enc : TypeId × Value → H) :
    ReturnsInHanded {} Tryz.checked os 3 .any (Rows.planeOrderSpec.pre6 enc Tryz.prog Tryz.f3 [] false) (Rows.planeOrderSpec.post enc Tryz.prog Tryz.f3 false true false false) :=
  law_step (s := Rows.planeOrderSpec) started (by kernel_rfl) Tryz.func3
    (ChangeSpec.witness6 (s := Rows.planeOrderSpec) (enc := enc) (C := Tryz.checked) false ⟨#[], #[.slice none 0 0, .int .i64 0, .int .i64 0, .int .i64 0], []⟩ 8 (by kernel_rfl) (by kernel_rfl) (by kernel_rfl) (by kernel_rfl))
    rfl (by rw [Tryz.params3]; decide +kernel) rfl Tryz.underlying4
    (fun ds h => by
      rw [Tryz.params3] at h
      match ds, h with
      | [_, _, _, _], _ => rfl)
    (fun W base args ds ps hval hA hsz => by
      rw [Tryz.params3] at hA hval hsz
      obtain ⟨v0, vs0, d0, ds0, p0, q0, hargs, rfl, rfl, h0, r0⟩ := trodAll_cons hA
      obtain ⟨v1, vs1, d1, ds1, p1, q1, rfl, rfl, rfl, h1, r1⟩ := trodAll_cons r0
      obtain ⟨v2, vs2, d2, ds2, p2, q2, rfl, rfl, rfl, h2, r2⟩ := trodAll_cons r1
      obtain ⟨v3, vs3, d3, ds3, p3, q3, rfl, rfl, rfl, h3, r3⟩ := trodAll_cons r2
      obtain ⟨rfl, rfl, rfl⟩ := trodAll_nil r3
      obtain rfl : args = #[v0, v1, v2, v3] := by cases args; simp_all
      obtain ⟨A0, n0, c0, g0, rfl, hn0, hc0, hs0, hw0, hl0, hd0⟩ := open_row Tryz.underlying22 Tryz.underlying3 (by kernel_rfl) (hval 0 22 v0 rfl rfl) h0
      have re0 : c0 * 8 ≤ 140737488351232 := by
        rcases hd0 with ⟨_, h0⟩ | ⟨xs, ys, h1, h2⟩
        · omega
        · have := sized_slice hsz (j := 0) (t := 22) (e := 3) rfl (by rw [h1]; rfl) Tryz.underlying22
          rw [h2, show Tryz.prog.bytesOf 3 = 8 from by kernel_rfl] at this
          simpa [reachBytes] using this
      obtain ⟨a1, rfl, rfl, rfl, w1⟩ := open_int Tryz.underlying3 (hval 1 3 v1 rfl rfl) h1
      obtain ⟨a2, rfl, rfl, rfl, w2⟩ := open_int Tryz.underlying3 (hval 2 3 v2 rfl rfl) h2
      obtain ⟨a3, rfl, rfl, rfl, w3⟩ := open_int Tryz.underlying3 (hval 3 3 v3 rfl rfl) h3
      exact walk W A0 n0 c0 g0 hn0 hc0 hs0 (fun j => bounds_i64 (hw0 j)) hl0 re0 a1 (bounds_i64 w1) a2 (bounds_i64 w2) a3 (bounds_i64 w3))

theorem proved : Rows.PlaneOrderSaid :=
  OpenClaim.holds_of_wide 3 Tryz.f3 rfl rfl rfl rfl rfl rfl rfl ⟨rfl, rfl, rfl, rfl, rfl⟩ rfl rfl rfl rfl rfl (by kernel_rfl) Tryz.func3 (by kernel_rfl)
    (of_decide_eq_true (by kernel_rfl)) (by unfold Func.isWrapper; first | (rw [if_pos (by decide +kernel)]; kernel_rfl) | (rw [if_neg (by decide +kernel)]; exact ⟨rfl, rfl⟩))
    (fun os started H enc _ => lifted os started H enc)
end Go.Proofs.YtjfopkbpaekejaaGreat.planeOrder
