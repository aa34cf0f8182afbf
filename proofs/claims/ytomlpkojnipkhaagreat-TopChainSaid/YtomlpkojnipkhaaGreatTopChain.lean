/- roundhousetop.TopChain answers true for every row, any numbers, any bytes; no condition. -/
import Derived.Test.YtomlpkojnipkhaaGreatGa
import Derived.Test.YtomlpkojnipkhaaGreatTopTh
import Derived.Test.YtomlpkojnipkhaaGreatTopChM
import Derived.Test.YtomlpkojnipkhaaGreatGu
import Derived.Test.YtomlpkojnipkhaaGreatWirMk
import Derived.Deep.LoopGhost
import Derived.Deep.CutRange
import Derived.Deep.CutBlock
import Derived.IntWalk
import Derived.BigQuiet
import Derived.Deep.RegionHeld3
import Derived.Deep.Cut
namespace Go.Proofs.YtomlpkojnipkhaaGreat.topChain
set_option linter.unusedVariables false
set_option linter.unusedSimpArgs false
open Go.RowKit Go.ChangeShapes Go.WideShapes Go.ChangeAt

attribute [local irreducible] FA FL
theorem ce5_ {w : World} {b : Nat} {v0 v1 v2 v3 v4 : Value} (h : Ce w b [v0, v1, v2, v3, v4]) : w.cell? ⟨b, 0, none⟩ = some v0 ∧ w.cell? ⟨b, 1, none⟩ = some v1 ∧ w.cell? ⟨b, 2, none⟩ = some v2 ∧ w.cell? ⟨b, 3, none⟩ = some v3 ∧ w.cell? ⟨b, 4, none⟩ = some v4 := ⟨h.2.1 0 _ rfl, h.2.1 1 _ rfl, h.2.1 2 _ rfl, h.2.1 3 _ rfl, h.2.1 4 _ rfl⟩
theorem zSl (w : World) : (zeroValue 25).run Tryz.prog w = .ok (.agg ([.int .i64 0, .int .i64 0, .int .i64 0, .int .i64 0, .int .i64 0] : List Value).toArray) w := by kernel_rfl
theorem iSl : (Tryz.prog.info? 25).map (·.size) = some 5 := by kernel_rfl
theorem u32_in (x : Int) (h : 0 ≤ x ∧ x < 4294967296) : IntKind.u32.wrap x = x := by
  show x % 4294967296 = x
  omega
theorem u32_add (x y : Int) : IntKind.u32.wrap (x + y) = (x + y) % 4294967296 := rfl
theorem x_k (x : Pk) : builtF x 0 = x.kind := by rw [built_hd (by omega), raw_0]
theorem c_mk {S : List Nat} {W w : World} {L : List Th} (hS : HS S W w L) (p : Pk) (kind : Int) (A1 : Option Addr) (n1 c1 : Nat) (g1 : Nat → Int) (A2 : Option Addr) (n2 c2 : Nat) (g2 : Nat → Int) (hp : p = mkPk kind (nv g1 n1) g2 n2) (hg2 : IsB g2) (hn1 : (n1 : Int) ≤ 9223372036854775807) (hn2 : n2 ≤ c2) (hn3 : (n2 : Int) ≤ 9223372036854775807) (hr1 : Is w A1 n1 g1) (hr2 : By w A2 n2 g2) :
    Calls Tryz.prog 28 #[.int .i64 kind, .slice A1 n1 c1, .slice A2 n2 c2] w fun e w' => ∃ AO cO AD cD, e = .returned (.agg #[.int .i64 p.kind, .int .i64 p.life, .int .i64 p.piece, .int .i64 p.src, .int .i64 p.dst, .int .i64 p.fp, .int .i64 p.tp, .int .i64 p.flags, .int .i64 p.label, .bool p.bare, .int .i64 p.code, .slice AO p.no cO, .slice AD p.nd cD]) ∧ HS S W w' (thOD 0 (.slice AO p.no cO) (.slice AD p.nd cD) p.no p.nd p.go p.gd :: L) := by
  subst hp
  refine (make_anyW kind A1 n1 c1 g1 A2 n2 c2 g2 w hr1 hr2 hg2 hn1 hn2 hn3).mono ?_
  rintro e w' ⟨O, D, rfl, hO, hD, hb⟩
  obtain ⟨AO, cO, rfl, _, _, _⟩ := hO.form_
  obtain ⟨AD, cD, rfl, _, _, _⟩ := hD.form_
  exact ⟨AO, cO, AD, cD, rfl, hS.newP hb hO hD⟩
set_option maxRecDepth 100000 in
set_option maxHeartbeats 8000000 in
theorem walk (W : World) (A1 : Option Addr) (n1 c1 : Nat) (g1 : Nat → Int) (hn1 : n1 ≤ c1) (hc1 : c1 ≤ maxLen) (hr1 : Is W A1 n1 g1) (hg1 : IsI g1) (hl1 : ∀ ad, A1 = some ad → 0 < n1 → ad.block < W.heap.size) (re1 : c1 * 8 ≤ 140737488351232) (b0 : Int) (r_b0 : -9223372036854775808 ≤ b0 ∧ b0 ≤ 9223372036854775807) (A2 : Option Addr) (n2 c2 : Nat) (g2 : Nat → Int) (hn2 : n2 ≤ c2) (hc2 : c2 ≤ maxLen) (hr2 : Is W A2 n2 g2) (hg2 : IsI g2) (hl2 : ∀ ad, A2 = some ad → 0 < n2 → ad.block < W.heap.size) (re2 : c2 * 8 ≤ 140737488351232) (A3 : Option Addr) (n3 c3 : Nat) (g3 : Nat → Int) (hn3 : n3 ≤ c3) (hc3 : c3 ≤ maxLen) (hr3 : By W A3 n3 g3) (hg3 : IsB g3) (hl3 : ∀ ad, A3 = some ad → 0 < n3 → ad.block < W.heap.size) (re3 : c3 * 1 ≤ 140737488351232) (a0 : Int) (r_a0 : -9223372036854775808 ≤ a0 ∧ a0 ≤ 9223372036854775807) :
    Calls Tryz.prog 6 #[.slice A1 n1 c1, .int .i64 b0, .slice A2 n2 c2, .slice A3 n3 c3, .int .i64 a0] W fun e w' => e = .returned (.bool true) ∧ Below W.heap.size W w' := by
  skip
  obtain ⟨p, hp⟩ : ∃ p, p = mkP g1 (min n1 60) := ⟨_, rfl⟩
  have HPI := hid (show Pinv p 60 from by rw [hp]; exact (mkP_inv g1 _).mono (by omega))
  have HPC := hid (show p.a = 10 ∧ p.p = 80 from by rw [hp]; exact mkP_ap g1 _)
  have HPT := hid (show Pt p from by rw [hp]; exact mkP_pt g1 _ (by omega))
  have HPW := hid (show Pw p from by rw [hp]; exact mk_pw g1 _)
  have MK := hid (fun (w : World) (hb : Below W.heap.size W w) => (show Calls Tryz.prog 10 #[.slice A1 n1 c1, .int .i64 60] w fun x w' => x = .returned (.agg (FA 330 (pc p))) ∧ Below w.heap.size w w' from by rw [hp]; exact mk_top W A1 n1 c1 g1 hr1 hl1 hn1 hc1 60 (by decide) w hb))
  clear hp hr1 hl1 hg1 re1 hn1 hc1
  have S0 : Hid (HS [] W W []) := hid HS.start
  have HR2 := hid (show ∀ (w : World), Below W.heap.size W w → Is w A2 n2 g2 from fun w h => hr2.below h (Nat.le_refl _))
  have HR3 := hid (show ∀ (w : World), Below W.heap.size W w → By w A3 n3 g3 from fun w h => Sl.below hr3 h (Nat.le_refl _))
  unfold maxLen at hc2 hc3
  obtain ⟨x0, hx0⟩ : ∃ x, x = mkPk b0 (nv g2 n2) g3 n3 := ⟨_, rfl⟩
  obtain ⟨m1, m2, m3, m4, m5, m6⟩ := mk_facts b0 (nv g2 n2) g3 n3 hg3
  have MKP := hid (fun (w : World) (L : List Th) (h : HS [] W w L) => (show Calls Tryz.prog 28 #[.int .i64 b0, .slice A2 n2 c2, .slice A3 n3 c3] w fun e w' => ∃ AO cO AD cD, e = .returned (.agg #[.int .i64 x0.kind, .int .i64 x0.life, .int .i64 x0.piece, .int .i64 x0.src, .int .i64 x0.dst, .int .i64 x0.fp, .int .i64 x0.tp, .int .i64 x0.flags, .int .i64 x0.label, .bool x0.bare, .int .i64 x0.code, .slice AO x0.no cO, .slice AD x0.nd cD]) ∧ HS [] W w' (thOD 0 (.slice AO x0.no cO) (.slice AD x0.nd cD) x0.no x0.nd x0.go x0.gd :: L) from c_mk h x0 b0 A2 n2 c2 g2 A3 n3 c3 g3 hx0 hg3 (by have := hn2; omega) hn3 (by have := hn3; omega) (HR2.out w h.bl) (HR3.out w h.bl)))
  rw [← hx0] at m1 m2 m3 m4 m5 m6
  have HM := xK_mk m1 m2 m3 m4 m5 m6
  obtain ⟨kK, hkK⟩ : ∃ k, k = (if x0.kind = 3 then 2 else x0.kind) := ⟨_, rfl⟩
  obtain ⟨cK, hcK⟩ : ∃ k, k = (if x0.kind = 3 then 0 else x0.code) := ⟨_, rfl⟩
  have HM2 : Mkd { x0 with kind := kK, code := cK } := by rw [hkK, hcK]; exact HM
  have HKK := hid hkK
  have HCK := hid hcK
  have hno : x0.no ≤ 40 := m5
  have hnd : x0.nd ≤ 200 := m6
  clear hx0 HM hr2 hr3 hg2 hg3 hl2 hl3 re2 re3 hn2 hn3 hc2 hc3 m1 m2 m3 m4 m5 m6 hkK hcK HR2 HR3
  obtain ⟨s0, hs0⟩ : ∃ x, x = wi a0 6 := ⟨_, rfl⟩
  have bs0 := wi_bd a0 6 (by omega)
  rw [← hs0] at bs0
  have Ws0 := hid (fun w => re_i64 (within_any a0 6 w (by omega) (by omega)) hs0.symm)
  clear hs0
  obtain ⟨bs01, bs02⟩ := bs0
  obtain ⟨c, rfl⟩ : ∃ c : Nat, s0 = (c : Int) := ⟨s0.toNat, by omega⟩
  have hc : c < 64 := by omega
  have i0 : (0 : Int) ≤ c := by omega
  have i1 : (c : Int) < 64 := by omega
  have RTK := hid (fun (w : World) => (show Calls Tryz.prog 25 #[.agg #[.int .i64 (p.s c).st, .int .i64 (p.s c).ad, .int .i64 (p.s c).po, .int .i64 (p.s c).we, .int .i64 (p.s c).si]] w fun e w' => e = .returned (.bool (takesB (p.s c).st)) ∧ Below w.heap.size w w' from rtakes_any (p.s c) w))
  cases ht : takesB (p.s c).st
  · rw [ht] at RTK
    go_enter Tryz.func6, Tryz.ntmps6
    go_wp2_with fail
    refine (known_t _).mono ?_
    rintro e w1 ⟨rfl, hb⟩
    have S1 : Hid (HS [] W w1 []) := hid (S0.out.below hb)
    clear hb S0
    go_simp
    go_wp2_with fail
    refine (MK.out _ S1.out.bl).mono ?_
    rintro e w2 ⟨rfl, hb⟩
    have S2 : Hid (HS [] W w2 []) := hid (S1.out.below hb)
    clear hb S1 MK
    go_simp
    go_upto_region 4 with (first | ((with_reducible refine wl_id ?_); refine wl_ow rfl (ow_alloc rfl (zpl2 _) (by omega) S2.out ?_); intro P w_ hZ _; have SA := hid hZ; clear hZ) | ((with_reducible refine wl_id ?_); refine wl_ow rfl (ow_store (A := []) 0 330 (pc p) (pc p) rfl rfl rfl SA.out (by omega) (fun j hj => patch_all _ _ _ j hj) info_pl2 (pc_one _) ?_); intro w_ hZ; have SX := hid hZ; clear hZ))
    have S3 : Hid (HS [] W _ [thB P 330 (pc p)]) := hid (SX.out)
    clear SX SA S2
    go_wp2_with fail
    refine (Ws0.out _).mono ?_
    rintro e w' ⟨rfl, rfl⟩
    obtain ⟨s0, s1, s2, s3, s4⟩ := (pool_fb (S3.out.fb 0 rfl)).s5 c hc
    go_upto_region 5 with (first | ((with_reducible refine wl_id ?_); refine wl_ow rfl (ow_allocC rfl (zSl _) (by simp) S3.out ?_); intro Z w_ hZ _; have SY := hid hZ; clear hZ) | ((with_reducible refine wl_id ?_); refine wl_ow rfl (ow_storeC (A := []) [.int .i64 (p.s c).st, .int .i64 (p.s c).ad, .int .i64 (p.s c).po, .int .i64 (p.s c).we, .int .i64 (p.s c).si] rfl rfl (rfl) SY.out rfl iSl rfl ?_); intro w_ hZ; have SX := hid hZ; clear hZ))
    have S4 : Hid (HS [] W _ [thC Z [.int .i64 (p.s c).st, .int .i64 (p.s c).ad, .int .i64 (p.s c).po, .int .i64 (p.s c).we, .int .i64 (p.s c).si], thB P 330 (pc p)]) := hid (SX.out)
    clear SX SY S3 s0 s1 s2 s3 s4
    obtain ⟨z0, z1, z2, z3, z4⟩ := ce5_ (S4.out.ce 0 rfl)
    go_wp2_with fail
    refine (RTK.out _).mono ?_
    rintro e w4 ⟨rfl, hb⟩
    have S5 : Hid (HS [] W w4 [thC Z [.int .i64 (p.s c).st, .int .i64 (p.s c).ad, .int .i64 (p.s c).po, .int .i64 (p.s c).we, .int .i64 (p.s c).si], thB P 330 (pc p)]) := hid (S4.out.below hb)
    clear hb S4 RTK z0 z1 z2 z3 z4
    go_simp
    go_wp2_with fail
    go_ret
    exact ⟨rfl, S5.out.bl⟩
  · rw [ht] at RTK
    obtain ⟨n, hn⟩ : ∃ n, n = lenP (xC (p.s c).ad (p.s c).po { x0 with kind := kK, code := cK }) := ⟨_, rfl⟩
    obtain ⟨hE1, hn15, F, nr', go', lb, t1, b1, q1, w1, bgo, p1, hn2, hE2, hch⟩ := chain_all HPT.out HPC.out.1 HPC.out.2 hc ht HM2 hn
    obtain ⟨G1, hG1⟩ : ∃ G, G = builtF (xC (p.s c).ad (p.s c).po { x0 with kind := kK, code := cK }) := ⟨_, rfl⟩
    obtain ⟨G2, hG2⟩ : ∃ G, G = builtF (xZ (xC (p.s c).ad (p.s c).po { x0 with kind := kK, code := cK }) go' lb) := ⟨_, rfl⟩
    rw [← hG1] at t1
    rw [← hG2] at hch
    have BG1 := hid (show IsB G1 from by rw [hG1]; exact x_B HM2.gd HM2.go hE1)
    have BG2 := hid (show IsB G2 from by rw [hG2]; exact x_B HM2.gd bgo hE2)
    have KG1 := hid (show G1 0 = kK from by rw [hG1]; exact x_k _)
    have KG2 := hid (show G2 0 = kK from by rw [hG2]; exact x_k _)
    have NK := hid (show kK ≠ 3 from by intro e; rcases HM2.kd with j | j; exact absurd (show kK = 1 from j) (by omega); exact absurd (show kK = 2 from j) (by omega))
    have BLD1 := hid (fun (w : World) (L : List Th) (h : HS [] W w L) (A B : Option Addr) (c' d' : Nat) (hA : By w A x0.no (x0.go)) (hB : By w B x0.nd x0.gd) => (show Calls Tryz.prog 12 #[.agg #[.int .i64 kK, .int .i64 9, .int .i64 0, .int .i64 (p.s c).ad, .int .i64 7000, .int .i64 (p.s c).po, .int .i64 x0.tp, .int .i64 x0.flags, .int .i64 x0.label, .bool x0.bare, .int .i64 cK, .slice A x0.no c', .slice B x0.nd d']] w fun e w' => ∃ A c, e = .returned (.tuple #[.slice A n c, .int .i64 0]) ∧ HS [] W w' (thY (.slice A n c) n G1 :: L) ∧ n ≤ c from c_build h (xC (p.s c).ad (p.s c).po { x0 with kind := kK, code := cK }) n G1 hn hG1 hE1 HM2.go HM2.gd (Nat.le_trans hno (by decide)) (Nat.le_trans hnd (by decide)) A c' B d' hA hB))
    have BLD2 := hid (fun (w : World) (L : List Th) (h : HS [] W w L) (A B : Option Addr) (c' d' : Nat) (hA : By w A x0.no (go')) (hB : By w B x0.nd x0.gd) => (show Calls Tryz.prog 12 #[.agg #[.int .i64 kK, .int .i64 8, .int .i64 0, .int .i64 7000, .int .i64 10, .int .i64 x0.tp, .int .i64 80, .int .i64 x0.flags, .int .i64 lb, .bool x0.bare, .int .i64 cK, .slice A x0.no c', .slice B x0.nd d']] w fun e w' => ∃ A c, e = .returned (.tuple #[.slice A n c, .int .i64 0]) ∧ HS [] W w' (thY (.slice A n c) n G2 :: L) ∧ n ≤ c from c_build h (xZ (xC (p.s c).ad (p.s c).po { x0 with kind := kK, code := cK }) go' lb) n G2 hn2 hG2 hE2 bgo HM2.gd (Nat.le_trans hno (by decide)) (Nat.le_trans hnd (by decide)) A c' B d' hA hB))
    have PRS := hid (fun (w : World) (L : List Th) (h : HS [] W w L) (A : Option Addr) (c' : Nat) (hc : n ≤ c') (hA : By w A n F) => (show Calls Tryz.prog 27 #[.slice A n c'] w fun e w' => ∃ AO cO AD cD, e = .returned (.tuple #[.agg #[.int .i64 kK, .int .i64 8, .int .i64 0, .int .i64 10, .int .i64 7000, .int .i64 80, .int .i64 x0.tp, .int .i64 x0.flags, .int .i64 lb, .bool x0.bare, .int .i64 cK, .slice AO x0.no cO, .slice AD x0.nd cD], .int .i64 0]) ∧ HS [] W w' (thOD 0 (.slice AO x0.no cO) (.slice AD x0.nd cD) x0.no x0.nd go' x0.gd :: L) ∧ x0.no ≤ cO ∧ x0.nd ≤ cD from c_parse h (xY (xC (p.s c).ad (p.s c).po { x0 with kind := kK, code := cK }) go' lb) F n b1 (by omega) q1 p1 A c' hc hA))
    have WHO := hid (fun (w : World) (A : Option Addr) (c' : Nat) (hc : n ≤ c') (f : Nat → Int) (hf : IsB f) (hw : wholeB f n = true) (hA : By w A n f) => (show Calls Tryz.prog 29 #[.slice A n c'] w fun e w' => e = .returned (.bool true) ∧ Below w.heap.size w w' from by have h := whole_any A n c' f w hA hf hc (by omega); rw [hw] at h; exact h))
    have T1 := hid t1
    have HCH := hid hch
    have HB1 := hid b1
    have HW1 := hid w1
    have HN0 := hid (show Nt32 (fun _ => none) from fun j v h => by cases h)
    have HN15 := hid hn15
    clear t1 hch b1 w1 q1 p1 hn hn2 hE1 hE2 hG1 hG2 bgo HM2 hn15
    go_enter Tryz.func6, Tryz.ntmps6
    go_wp2_with fail
    refine (known_t _).mono ?_
    rintro e w1 ⟨rfl, hb⟩
    have S1 : Hid (HS [] W w1 []) := hid (S0.out.below hb)
    clear hb S0
    go_simp
    go_wp2_with fail
    refine (MK.out _ S1.out.bl).mono ?_
    rintro e w2 ⟨rfl, hb⟩
    have S2 : Hid (HS [] W w2 []) := hid (S1.out.below hb)
    clear hb S1 MK
    go_simp
    go_upto_region 4 with (first | ((with_reducible refine wl_id ?_); refine wl_ow rfl (ow_alloc rfl (zpl2 _) (by omega) S2.out ?_); intro P w_ hZ _; have SA := hid hZ; clear hZ) | ((with_reducible refine wl_id ?_); refine wl_ow rfl (ow_store (A := []) 0 330 (pc p) (pc p) rfl rfl rfl SA.out (by omega) (fun j hj => patch_all _ _ _ j hj) info_pl2 (pc_one _) ?_); intro w_ hZ; have SX := hid hZ; clear hZ))
    have S3 : Hid (HS [] W _ [thB P 330 (pc p)]) := hid (SX.out)
    clear SX SA S2
    go_wp2_with fail
    refine (Ws0.out _).mono ?_
    rintro e w' ⟨rfl, rfl⟩
    obtain ⟨s0, s1, s2, s3, s4⟩ := (pool_fb (S3.out.fb 0 rfl)).s5 c hc
    go_upto_region 5 with (first | ((with_reducible refine wl_id ?_); refine wl_ow rfl (ow_allocC rfl (zSl _) (by simp) S3.out ?_); intro Z w_ hZ _; have SY := hid hZ; clear hZ) | ((with_reducible refine wl_id ?_); refine wl_ow rfl (ow_storeC (A := []) [.int .i64 (p.s c).st, .int .i64 (p.s c).ad, .int .i64 (p.s c).po, .int .i64 (p.s c).we, .int .i64 (p.s c).si] rfl rfl (rfl) SY.out rfl iSl rfl ?_); intro w_ hZ; have SX := hid hZ; clear hZ))
    have S4 : Hid (HS [] W _ [thC Z [.int .i64 (p.s c).st, .int .i64 (p.s c).ad, .int .i64 (p.s c).po, .int .i64 (p.s c).we, .int .i64 (p.s c).si], thB P 330 (pc p)]) := hid (SX.out)
    clear SX SY S3 s0 s1 s2 s3 s4
    obtain ⟨z0, z1, z2, z3, z4⟩ := ce5_ (S4.out.ce 0 rfl)
    go_wp2_with fail
    refine (RTK.out _).mono ?_
    rintro e w4 ⟨rfl, hb⟩
    have S5 : Hid (HS [] W w4 [thC Z [.int .i64 (p.s c).st, .int .i64 (p.s c).ad, .int .i64 (p.s c).po, .int .i64 (p.s c).we, .int .i64 (p.s c).si], thB P 330 (pc p)]) := hid (S4.out.below hb)
    clear hb S4 RTK z0 z1 z2 z3 z4
    go_simp
    go_wp2_with fail
    refine (MKP.out _ _ S5.out).mono ?_
    rintro e w5 ⟨AO, cO, AD, cD, rfl, hz⟩
    have S6 : Hid (HS [] W w5 [thOD 0 (.slice AO x0.no cO) (.slice AD x0.nd cD) x0.no x0.nd x0.go x0.gd, thC Z [.int .i64 (p.s c).st, .int .i64 (p.s c).ad, .int .i64 (p.s c).po, .int .i64 (p.s c).we, .int .i64 (p.s c).si], thB P 330 (pc p)]) := hid (hz)
    clear hz S5 MKP
    go_simp
    go_upto_region 8 with (first | ((with_reducible refine wl_id ?_); refine wl_ow rfl (ow_allocC rfl (zPk _) (by simp) S6.out ?_); intro X w_ hZ _; have SY := hid hZ; clear hZ) | ((with_reducible refine wl_id ?_); refine wl_ow rfl (ow_storeC (A := []) [.int .i64 x0.kind, .int .i64 x0.life, .int .i64 x0.piece, .int .i64 x0.src, .int .i64 x0.dst, .int .i64 x0.fp, .int .i64 x0.tp, .int .i64 x0.flags, .int .i64 x0.label, .bool x0.bare, .int .i64 x0.code, .slice AO x0.no cO, .slice AD x0.nd cD] rfl rfl (rfl) SY.out rfl iPk rfl ?_); intro w_ hZ; have SX := hid hZ; clear hZ))
    have S7 : Hid (HS [] W _ [thC X [.int .i64 x0.kind, .int .i64 x0.life, .int .i64 x0.piece, .int .i64 x0.src, .int .i64 x0.dst, .int .i64 x0.fp, .int .i64 x0.tp, .int .i64 x0.flags, .int .i64 x0.label, .bool x0.bare, .int .i64 x0.code, .slice AO x0.no cO, .slice AD x0.nd cD], thOD 0 (.slice AO x0.no cO) (.slice AD x0.nd cD) x0.no x0.nd x0.go x0.gd, thC Z [.int .i64 (p.s c).st, .int .i64 (p.s c).ad, .int .i64 (p.s c).po, .int .i64 (p.s c).we, .int .i64 (p.s c).si], thB P 330 (pc p)]) := hid (SX.out)
    clear SX SY S6
    have y0 := (S7.out.ce 0 rfl).2.1 0 _ rfl
    go_upto_if 42 with (fail)
    clear y0
    go_cut [] from 40 to 44 (fun wx => HS [] W wx [thC X [.int .i64 kK, .int .i64 x0.life, .int .i64 x0.piece, .int .i64 x0.src, .int .i64 x0.dst, .int .i64 x0.fp, .int .i64 x0.tp, .int .i64 x0.flags, .int .i64 x0.label, .bool x0.bare, .int .i64 cK, .slice AO x0.no cO, .slice AD x0.nd cD], thOD 0 (.slice AO x0.no cO) (.slice AD x0.nd cD) x0.no x0.nd x0.go x0.gd, thC Z [.int .i64 (p.s c).st, .int .i64 (p.s c).ad, .int .i64 (p.s c).po, .int .i64 (p.s c).we, .int .i64 (p.s c).si], thB P 330 (pc p)])
    case first =>
      have hf := (S7.out.ce 0 rfl).2.2
      have hf0 := hf 0
      have hf10 := hf 10
      have y0 := (S7.out.ce 0 rfl).2.1 0 _ rfl
      have y10 := (S7.out.ce 0 rfl).2.1 10 _ rfl
      have yl := (S7.out.ce 0 rfl).1
      cases b3 : (x0.kind == 3)
      · have E1 := hid (show kK = x0.kind from by rw [HKK.out, if_neg (by simpa using b3)])
        have E2 := hid (show cK = x0.code from by rw [HCK.out, if_neg (by simpa using b3)])
        clear b3
        go_wp2_with fail
        go_meet
        rw [E1.out, E2.out]
        exact S7.out
      · have E1 := hid (show kK = 2 from by rw [HKK.out, if_pos (by simpa using b3)])
        have E2 := hid (show cK = 0 from by rw [HCK.out, if_pos (by simpa using b3)])
        clear b3
        go_wp2_with fail
        go_meet
        rw [E1.out, E2.out]
        exact HS.setC (A := []) (HS.setC (A := []) S7.out 0 (.int .i64 2) (by simp)) 10 (.int .i64 0) (by simp)
    case rest =>
      have S8 : Hid (HS [] W _ [thC X [.int .i64 kK, .int .i64 x0.life, .int .i64 x0.piece, .int .i64 x0.src, .int .i64 x0.dst, .int .i64 x0.fp, .int .i64 x0.tp, .int .i64 x0.flags, .int .i64 x0.label, .bool x0.bare, .int .i64 cK, .slice AO x0.no cO, .slice AD x0.nd cD], thOD 0 (.slice AO x0.no cO) (.slice AD x0.nd cD) x0.no x0.nd x0.go x0.gd, thC Z [.int .i64 (p.s c).st, .int .i64 (p.s c).ad, .int .i64 (p.s c).po, .int .i64 (p.s c).we, .int .i64 (p.s c).si], thB P 330 (pc p)]) := hid (hcut)
      clear hcut S7
      go_upto_region 10 with (fail)
      go_cut [] from 45 to 53 (fun wx => HS [] W wx [thC X [.int .i64 kK, .int .i64 9, .int .i64 0, .int .i64 (p.s c).ad, .int .i64 7000, .int .i64 (p.s c).po, .int .i64 x0.tp, .int .i64 x0.flags, .int .i64 x0.label, .bool x0.bare, .int .i64 cK, .slice AO x0.no cO, .slice AD x0.nd cD], thOD 0 (.slice AO x0.no cO) (.slice AD x0.nd cD) x0.no x0.nd x0.go x0.gd, thC Z [.int .i64 (p.s c).st, .int .i64 (p.s c).ad, .int .i64 (p.s c).po, .int .i64 (p.s c).we, .int .i64 (p.s c).si], thB P 330 (pc p)])
      case first =>
        refine wp_region_held_drew (S := fun (w' : World) => HS [] W w' [thOD 0 (.slice AO x0.no cO) (.slice AD x0.nd cD) x0.no x0.nd x0.go x0.gd, thC Z [.int .i64 (p.s c).st, .int .i64 (p.s c).ad, .int .i64 (p.s c).po, .int .i64 (p.s c).we, .int .i64 (p.s c).si], thB P 330 (pc p)]) (by kernel_rfl) ?_ (fun hHeld => ?_)
        · exact S8.out.drew.tail
        refine tkq 0 hHeld ?_
        refine tkq 1 hHeld ?_ (hy := by intro w hSw; (try dsimp only at hSw); have x0 := (hSw.ce 1 rfl).2.1 1 _ rfl; go_simp; (try with_reducible rfl))
        refine tkq 2 hHeld ?_
        refine tkq 3 hHeld ?_ (hy := by intro w hSw; (try dsimp only at hSw); have x0 := (hSw.ce 1 rfl).2.1 2 _ rfl; go_simp; (try with_reducible rfl))
        refine tkq 4 hHeld ?_
        have F := S8.out.drew
        clear hHeld
        generalize wc.drew = v0 at F ⊢
        have hf := (F.ce 0 rfl).2.2 3
        have hy := (F.ce 0 rfl).2.1 3 _ rfl
        have hl := (F.ce 0 rfl).1
        refine only 5 rfl (by kernel_rfl) rfl (fun K hK => ?_)
        go_simp
        have G := HS.setC (A := []) F 3 (.int .i64 (p.s c).ad) (by simp)
        refine hK.out _ _ (HS.tail G) (fun hq => ?_)
        clear hK F hf hy hl
        try simp only [Act.put, List.setIfInBounds_toArray, List.set_cons_zero, List.set_cons_succ]
        have F := G
        clear G
        generalize v0.setCell ⟨X, 3, none⟩ (.int .i64 (p.s c).ad) = v1 at F hq ⊢
        refine tkq 6 hq ?_
        clear hq
        have hf := (F.ce 0 rfl).2.2 5
        have hy := (F.ce 0 rfl).2.1 5 _ rfl
        have hl := (F.ce 0 rfl).1
        refine only 7 rfl (by kernel_rfl) rfl (fun K hK => ?_)
        go_simp
        have G := HS.setC (A := []) F 5 (.int .i64 (p.s c).po) (by simp)
        refine hK.out _ _ (HS.tail G) (fun hq => ?_)
        clear hK F hf hy hl
        try simp only [Act.put, List.setIfInBounds_toArray, List.set_cons_zero, List.set_cons_succ]
        have F := G
        clear G
        generalize v1.setCell ⟨X, 5, none⟩ (.int .i64 (p.s c).po) = v2 at F hq ⊢
        refine tkq 8 hq ?_
        clear hq
        have hf := (F.ce 0 rfl).2.2 4
        have hy := (F.ce 0 rfl).2.1 4 _ rfl
        have hl := (F.ce 0 rfl).1
        refine only 9 rfl (by kernel_rfl) rfl (fun K hK => ?_)
        go_simp
        have G := HS.setC (A := []) F 4 (.int .i64 7000) (by simp)
        refine hK.out _ _ (HS.tail G) (fun hq => ?_)
        clear hK F hf hy hl
        try simp only [Act.put, List.setIfInBounds_toArray, List.set_cons_zero, List.set_cons_succ]
        have F := G
        clear G
        generalize v2.setCell ⟨X, 4, none⟩ (.int .i64 7000) = v3 at F hq ⊢
        refine tkq 10 hq ?_
        clear hq
        have hf := (F.ce 0 rfl).2.2 1
        have hy := (F.ce 0 rfl).2.1 1 _ rfl
        have hl := (F.ce 0 rfl).1
        refine only 11 rfl (by kernel_rfl) rfl (fun K hK => ?_)
        go_simp
        have G := HS.setC (A := []) F 1 (.int .i64 9) (by simp)
        refine hK.out _ _ (HS.tail G) (fun hq => ?_)
        clear hK F hf hy hl
        try simp only [Act.put, List.setIfInBounds_toArray, List.set_cons_zero, List.set_cons_succ]
        have F := G
        clear G
        generalize v3.setCell ⟨X, 1, none⟩ (.int .i64 9) = v4 at F hq ⊢
        refine tkq 12 hq ?_
        clear hq
        have hf := (F.ce 0 rfl).2.2 2
        have hy := (F.ce 0 rfl).2.1 2 _ rfl
        have hl := (F.ce 0 rfl).1
        refine only 13 rfl (by kernel_rfl) rfl (fun K hK => ?_)
        go_simp
        have G := HS.setC (A := []) F 2 (.int .i64 0) (by simp)
        refine hK.out _ _ (HS.tail G) (fun hq => ?_)
        clear hK F hf hy hl
        try simp only [Act.put, List.setIfInBounds_toArray, List.set_cons_zero, List.set_cons_succ]
        have F := G
        clear G
        generalize v4.setCell ⟨X, 2, none⟩ (.int .i64 0) = v5 at F hq ⊢
        refine wpAnyH_done (by kernel_rfl) ?_ _
        go_wp2_with fail
        go_meet
        exact F
      case rest =>
        have S9 : Hid (HS [] W _ [thC X [.int .i64 kK, .int .i64 9, .int .i64 0, .int .i64 (p.s c).ad, .int .i64 7000, .int .i64 (p.s c).po, .int .i64 x0.tp, .int .i64 x0.flags, .int .i64 x0.label, .bool x0.bare, .int .i64 cK, .slice AO x0.no cO, .slice AD x0.nd cD], thOD 0 (.slice AO x0.no cO) (.slice AD x0.nd cD) x0.no x0.nd x0.go x0.gd, thC Z [.int .i64 (p.s c).st, .int .i64 (p.s c).ad, .int .i64 (p.s c).po, .int .i64 (p.s c).we, .int .i64 (p.s c).si], thB P 330 (pc p)]) := hid (hcut)
        clear hcut S8
        obtain ⟨y0, y1, y2, y3, y4, y5, y6, y7, y8, y9, y10, y11, y12⟩ := (S9.out.ce 0 rfl).c13
        go_wp2_with fail
        refine (BLD1.out _ _ S9.out _ _ _ _ (S9.out.byO 1 rfl).1 (S9.out.byO 1 rfl).2).mono ?_
        rintro e w7 ⟨AQ, cQ, rfl, hz, hcc⟩
        have S10 : Hid (HS [] W w7 [thY (.slice AQ n cQ) n G1, thC X [.int .i64 kK, .int .i64 9, .int .i64 0, .int .i64 (p.s c).ad, .int .i64 7000, .int .i64 (p.s c).po, .int .i64 x0.tp, .int .i64 x0.flags, .int .i64 x0.label, .bool x0.bare, .int .i64 cK, .slice AO x0.no cO, .slice AD x0.nd cD], thOD 0 (.slice AO x0.no cO) (.slice AD x0.nd cD) x0.no x0.nd x0.go x0.gd, thC Z [.int .i64 (p.s c).st, .int .i64 (p.s c).ad, .int .i64 (p.s c).po, .int .i64 (p.s c).we, .int .i64 (p.s c).si], thB P 330 (pc p)]) := hid (hz)
        clear hz S9 y0 y1 y2 y3 y4 y5 y6 y7 y8 y9 y10 y11 y12 BLD1
        have HCQ := hid hcc
        clear hcc
        go_simp
        go_wp2_with fail
        refine (plane_new S10.out).mono ?_
        rintro e w80 ⟨pb, rfl, hz⟩
        have S11 : Hid (HS [] W w80 [thB pb 130 (plc none false nr0), thY (.slice AQ n cQ) n G1, thC X [.int .i64 kK, .int .i64 9, .int .i64 0, .int .i64 (p.s c).ad, .int .i64 7000, .int .i64 (p.s c).po, .int .i64 x0.tp, .int .i64 x0.flags, .int .i64 x0.label, .bool x0.bare, .int .i64 cK, .slice AO x0.no cO, .slice AD x0.nd cD], thOD 0 (.slice AO x0.no cO) (.slice AD x0.nd cD) x0.no x0.nd x0.go x0.gd, thC Z [.int .i64 (p.s c).st, .int .i64 (p.s c).ad, .int .i64 (p.s c).po, .int .i64 (p.s c).we, .int .i64 (p.s c).si], thB P 330 (pc p)]) := hid (hz)
        clear hz S10
        go_simp
        go_wp2_with fail
        refine (plane_new S11.out).mono ?_
        rintro e w81 ⟨qb, rfl, hz⟩
        have S12 : Hid (HS [] W w81 [thB qb 130 (plc none false nr0), thB pb 130 (plc none false nr0), thY (.slice AQ n cQ) n G1, thC X [.int .i64 kK, .int .i64 9, .int .i64 0, .int .i64 (p.s c).ad, .int .i64 7000, .int .i64 (p.s c).po, .int .i64 x0.tp, .int .i64 x0.flags, .int .i64 x0.label, .bool x0.bare, .int .i64 cK, .slice AO x0.no cO, .slice AD x0.nd cD], thOD 0 (.slice AO x0.no cO) (.slice AD x0.nd cD) x0.no x0.nd x0.go x0.gd, thC Z [.int .i64 (p.s c).st, .int .i64 (p.s c).ad, .int .i64 (p.s c).po, .int .i64 (p.s c).we, .int .i64 (p.s c).si], thB P 330 (pc p)]) := hid (hz)
        clear hz S11
        go_simp
        go_upto_region 15 with (fail)
        go_wp2_with ((with_reducible refine wl_id ?_); refine wl_ow rfl (ow_load 6 rfl 0 330 (pc p) rfl rfl S12.out (by omega) (fun j hj => by rw [Nat.zero_add]) Tryz.underlying33 rfl info_pl2 ?_))
        refine (c_load (A := [thB qb 130 (plc none false nr0)]) (B := [thY (.slice AQ n cQ) n G1, thC X [.int .i64 kK, .int .i64 9, .int .i64 0, .int .i64 (p.s c).ad, .int .i64 7000, .int .i64 (p.s c).po, .int .i64 x0.tp, .int .i64 x0.flags, .int .i64 x0.label, .bool x0.bare, .int .i64 cK, .slice AO x0.no cO, .slice AD x0.nd cD], thOD 0 (.slice AO x0.no cO) (.slice AD x0.nd cD) x0.no x0.nd x0.go x0.gd, thC Z [.int .i64 (p.s c).st, .int .i64 (p.s c).ad, .int .i64 (p.s c).po, .int .i64 (p.s c).we, .int .i64 (p.s c).si], thB P 330 (pc p)]) (nr := fun _ => none) S12.out p HPW.out).mono ?_
        rintro e w90 ⟨rfl, sb, wb, hne, hz⟩
        have S13 : Hid (HS [] W w90 [thS sb wb p, thB qb 130 (plc none false nr0), thB pb 130 (plf sb (fun _ => none)), thY (.slice AQ n cQ) n G1, thC X [.int .i64 kK, .int .i64 9, .int .i64 0, .int .i64 (p.s c).ad, .int .i64 7000, .int .i64 (p.s c).po, .int .i64 x0.tp, .int .i64 x0.flags, .int .i64 x0.label, .bool x0.bare, .int .i64 cK, .slice AO x0.no cO, .slice AD x0.nd cD], thOD 0 (.slice AO x0.no cO) (.slice AD x0.nd cD) x0.no x0.nd x0.go x0.gd, thC Z [.int .i64 (p.s c).st, .int .i64 (p.s c).ad, .int .i64 (p.s c).po, .int .i64 (p.s c).we, .int .i64 (p.s c).si], thB P 330 (pc p)]) := hid (hz)
        clear hz S12
        have HNE0 := hid hne
        clear hne
        go_simp
        go_upto_region 16 with (fail)
        go_wp2_with ((with_reducible refine wl_id ?_); refine wl_ow rfl (ow_load 7 rfl 0 330 (pc p) rfl rfl S13.out (by omega) (fun j hj => by rw [Nat.zero_add]) Tryz.underlying33 rfl info_pl2 ?_))
        refine (c_load (A := [thS sb wb p]) (B := [thB pb 130 (plf sb (fun _ => none)), thY (.slice AQ n cQ) n G1, thC X [.int .i64 kK, .int .i64 9, .int .i64 0, .int .i64 (p.s c).ad, .int .i64 7000, .int .i64 (p.s c).po, .int .i64 x0.tp, .int .i64 x0.flags, .int .i64 x0.label, .bool x0.bare, .int .i64 cK, .slice AO x0.no cO, .slice AD x0.nd cD], thOD 0 (.slice AO x0.no cO) (.slice AD x0.nd cD) x0.no x0.nd x0.go x0.gd, thC Z [.int .i64 (p.s c).st, .int .i64 (p.s c).ad, .int .i64 (p.s c).po, .int .i64 (p.s c).we, .int .i64 (p.s c).si], thB P 330 (pc p)]) (nr := fun _ => none) S13.out p HPW.out).mono ?_
        rintro e w91 ⟨rfl, sc, wd, hne, hz⟩
        have S14 : Hid (HS [] W w91 [thS sc wd p, thS sb wb p, thB qb 130 (plf sc (fun _ => none)), thB pb 130 (plf sb (fun _ => none)), thY (.slice AQ n cQ) n G1, thC X [.int .i64 kK, .int .i64 9, .int .i64 0, .int .i64 (p.s c).ad, .int .i64 7000, .int .i64 (p.s c).po, .int .i64 x0.tp, .int .i64 x0.flags, .int .i64 x0.label, .bool x0.bare, .int .i64 cK, .slice AO x0.no cO, .slice AD x0.nd cD], thOD 0 (.slice AO x0.no cO) (.slice AD x0.nd cD) x0.no x0.nd x0.go x0.gd, thC Z [.int .i64 (p.s c).st, .int .i64 (p.s c).ad, .int .i64 (p.s c).po, .int .i64 (p.s c).we, .int .i64 (p.s c).si], thB P 330 (pc p)]) := hid (hz)
        clear hz S13
        have HNE1 := hid hne
        clear hne
        go_simp
        go_upto_region 17 with (fail)
        go_wp2_with fail
        refine (c_take (A := [thS sc wd p, thS sb wb p, thB qb 130 (plf sc (fun _ => none))]) (B := [thY (.slice AQ n cQ) n G1, thC X [.int .i64 kK, .int .i64 9, .int .i64 0, .int .i64 (p.s c).ad, .int .i64 7000, .int .i64 (p.s c).po, .int .i64 x0.tp, .int .i64 x0.flags, .int .i64 x0.label, .bool x0.bare, .int .i64 cK, .slice AO x0.no cO, .slice AD x0.nd cD], thOD 0 (.slice AO x0.no cO) (.slice AD x0.nd cD) x0.no x0.nd x0.go x0.gd, thC Z [.int .i64 (p.s c).st, .int .i64 (p.s c).ad, .int .i64 (p.s c).po, .int .i64 (p.s c).we, .int .i64 (p.s c).si], thB P 330 (pc p)]) S14.out (S14.out.st 1 rfl) HNE0.out HPT.out HN0.out G1 n cQ AQ BG1.out (by have := HN15.out; omega) (fun _ => by rw [KG1.out]; exact NK.out) (S14.out.by_ 4 rfl) HCQ.out _ T1.out).mono ?_
        rintro e w10 ⟨AR, cR, rfl, hz, hcc⟩
        dsimp only [dropT] at hz hcc ⊢
        have S15 : Hid (HS [] W w10 [thY (.slice AR n cR) n F, thS sc wd p, thS sb wb p, thB qb 130 (plf sc (fun _ => none)), thB pb 130 (plf sb (nr')), thY (.slice AQ n cQ) n G1, thC X [.int .i64 kK, .int .i64 9, .int .i64 0, .int .i64 (p.s c).ad, .int .i64 7000, .int .i64 (p.s c).po, .int .i64 x0.tp, .int .i64 x0.flags, .int .i64 x0.label, .bool x0.bare, .int .i64 cK, .slice AO x0.no cO, .slice AD x0.nd cD], thOD 0 (.slice AO x0.no cO) (.slice AD x0.nd cD) x0.no x0.nd x0.go x0.gd, thC Z [.int .i64 (p.s c).st, .int .i64 (p.s c).ad, .int .i64 (p.s c).po, .int .i64 (p.s c).we, .int .i64 (p.s c).si], thB P 330 (pc p)]) := hid (hz)
        clear hz S14
        have HCR := hid hcc
        clear hcc
        go_simp
        go_upto_region 18 with (first | ((with_reducible refine wl_id ?_); refine wl_ow rfl (ow_allocC rfl (zOc _) (by simp) S15.out ?_); intro V w_ hZ _; have SY := hid hZ; clear hZ) | ((with_reducible refine wl_id ?_); refine wl_ow rfl (ow_storeC (A := []) [.int .i64 0, .int .i64 (-1), .bool false, .slice AR n cR] rfl rfl (rfl) SY.out rfl iOc rfl ?_); intro w_ hZ; have SX := hid hZ; clear hZ))
        have S16 : Hid (HS [] W _ [thC V [.int .i64 0, .int .i64 (-1), .bool false, .slice AR n cR], thY (.slice AR n cR) n F, thS sc wd p, thS sb wb p, thB qb 130 (plf sc (fun _ => none)), thB pb 130 (plf sb (nr')), thY (.slice AQ n cQ) n G1, thC X [.int .i64 kK, .int .i64 9, .int .i64 0, .int .i64 (p.s c).ad, .int .i64 7000, .int .i64 (p.s c).po, .int .i64 x0.tp, .int .i64 x0.flags, .int .i64 x0.label, .bool x0.bare, .int .i64 cK, .slice AO x0.no cO, .slice AD x0.nd cD], thOD 0 (.slice AO x0.no cO) (.slice AD x0.nd cD) x0.no x0.nd x0.go x0.gd, thC Z [.int .i64 (p.s c).st, .int .i64 (p.s c).ad, .int .i64 (p.s c).po, .int .i64 (p.s c).we, .int .i64 (p.s c).si], thB P 330 (pc p)]) := hid (SX.out)
        clear SX SY S15
        obtain ⟨f0, f1, f2, f3⟩ := (S16.out.ce 0 rfl).c4
        go_wp2_with fail
        refine (PRS.out _ _ S16.out _ _ HCR.out (S16.out.by_ 1 rfl)).mono ?_
        rintro e w11 ⟨AE, cE, AG, cG, rfl, hz, hcc, _⟩
        have S17 : Hid (HS [] W w11 [thOD 0 (.slice AE x0.no cE) (.slice AG x0.nd cG) x0.no x0.nd go' x0.gd, thC V [.int .i64 0, .int .i64 (-1), .bool false, .slice AR n cR], thY (.slice AR n cR) n F, thS sc wd p, thS sb wb p, thB qb 130 (plf sc (fun _ => none)), thB pb 130 (plf sb (nr')), thY (.slice AQ n cQ) n G1, thC X [.int .i64 kK, .int .i64 9, .int .i64 0, .int .i64 (p.s c).ad, .int .i64 7000, .int .i64 (p.s c).po, .int .i64 x0.tp, .int .i64 x0.flags, .int .i64 x0.label, .bool x0.bare, .int .i64 cK, .slice AO x0.no cO, .slice AD x0.nd cD], thOD 0 (.slice AO x0.no cO) (.slice AD x0.nd cD) x0.no x0.nd x0.go x0.gd, thC Z [.int .i64 (p.s c).st, .int .i64 (p.s c).ad, .int .i64 (p.s c).po, .int .i64 (p.s c).we, .int .i64 (p.s c).si], thB P 330 (pc p)]) := hid (hz)
        clear hz S16 f0 f1 f2 f3 PRS hcc
        go_simp
        go_upto_region 19 with (first | ((with_reducible refine wl_id ?_); refine wl_ow rfl (ow_allocC rfl (zPk _) (by simp) S17.out ?_); intro U w_ hZ _; have SY := hid hZ; clear hZ) | ((with_reducible refine wl_id ?_); refine wl_ow rfl (ow_storeC (A := []) [.int .i64 kK, .int .i64 8, .int .i64 0, .int .i64 10, .int .i64 7000, .int .i64 80, .int .i64 x0.tp, .int .i64 x0.flags, .int .i64 lb, .bool x0.bare, .int .i64 cK, .slice AE x0.no cE, .slice AG x0.nd cG] rfl rfl (rfl) SY.out rfl iPk rfl ?_); intro w_ hZ; have SX := hid hZ; clear hZ))
        have S18 : Hid (HS [] W _ [thC U [.int .i64 kK, .int .i64 8, .int .i64 0, .int .i64 10, .int .i64 7000, .int .i64 80, .int .i64 x0.tp, .int .i64 x0.flags, .int .i64 lb, .bool x0.bare, .int .i64 cK, .slice AE x0.no cE, .slice AG x0.nd cG], thOD 0 (.slice AE x0.no cE) (.slice AG x0.nd cG) x0.no x0.nd go' x0.gd, thC V [.int .i64 0, .int .i64 (-1), .bool false, .slice AR n cR], thY (.slice AR n cR) n F, thS sc wd p, thS sb wb p, thB qb 130 (plf sc (fun _ => none)), thB pb 130 (plf sb (nr')), thY (.slice AQ n cQ) n G1, thC X [.int .i64 kK, .int .i64 9, .int .i64 0, .int .i64 (p.s c).ad, .int .i64 7000, .int .i64 (p.s c).po, .int .i64 x0.tp, .int .i64 x0.flags, .int .i64 x0.label, .bool x0.bare, .int .i64 cK, .slice AO x0.no cO, .slice AD x0.nd cD], thOD 0 (.slice AO x0.no cO) (.slice AD x0.nd cD) x0.no x0.nd x0.go x0.gd, thC Z [.int .i64 (p.s c).st, .int .i64 (p.s c).ad, .int .i64 (p.s c).po, .int .i64 (p.s c).we, .int .i64 (p.s c).si], thB P 330 (pc p)]) := hid (SX.out)
        clear SX SY S17
        obtain ⟨f0, f1, f2, f3⟩ := (S18.out.ce 2 rfl).c4
        have nn : ((n : Int) != n) = false := by simp
        go_wp2_with fail
        refine (WHO.out _ _ _ HCR.out F HB1.out HW1.out (S18.out.by_ 3 rfl)).mono ?_
        rintro e w12 ⟨rfl, hb⟩
        have S19 : Hid (HS [] W w12 [thC U [.int .i64 kK, .int .i64 8, .int .i64 0, .int .i64 10, .int .i64 7000, .int .i64 80, .int .i64 x0.tp, .int .i64 x0.flags, .int .i64 lb, .bool x0.bare, .int .i64 cK, .slice AE x0.no cE, .slice AG x0.nd cG], thOD 0 (.slice AE x0.no cE) (.slice AG x0.nd cG) x0.no x0.nd go' x0.gd, thC V [.int .i64 0, .int .i64 (-1), .bool false, .slice AR n cR], thY (.slice AR n cR) n F, thS sc wd p, thS sb wb p, thB qb 130 (plf sc (fun _ => none)), thB pb 130 (plf sb (nr')), thY (.slice AQ n cQ) n G1, thC X [.int .i64 kK, .int .i64 9, .int .i64 0, .int .i64 (p.s c).ad, .int .i64 7000, .int .i64 (p.s c).po, .int .i64 x0.tp, .int .i64 x0.flags, .int .i64 x0.label, .bool x0.bare, .int .i64 cK, .slice AO x0.no cO, .slice AD x0.nd cD], thOD 0 (.slice AO x0.no cO) (.slice AD x0.nd cD) x0.no x0.nd x0.go x0.gd, thC Z [.int .i64 (p.s c).st, .int .i64 (p.s c).ad, .int .i64 (p.s c).po, .int .i64 (p.s c).we, .int .i64 (p.s c).si], thB P 330 (pc p)]) := hid (S18.out.below hb)
        clear hb S18 f0 f1 f2 f3
        go_simp
        obtain ⟨f0, f1, f2, f3⟩ := (S19.out.ce 2 rfl).c4
        go_upto_region 21 with (fail)
        clear f0 f1 f2 f3
        obtain ⟨y0, y1, y2, y3, y4, y5, y6, y7, y8, y9, y10, y11, y12⟩ := (S19.out.ce 0 rfl).c13
        have hf := (S19.out.ce 0 rfl).2.2
        have hf3 := hf 3
        have hf4 := hf 4
        have hf5 := hf 5
        have hf6 := hf 6
        go_upto_region 22 with (fail)
        have S20 : Hid (HS [] W _ [thC U [.int .i64 kK, .int .i64 8, .int .i64 0, .int .i64 7000, .int .i64 10, .int .i64 x0.tp, .int .i64 80, .int .i64 x0.flags, .int .i64 lb, .bool x0.bare, .int .i64 cK, .slice AE x0.no cE, .slice AG x0.nd cG], thOD 0 (.slice AE x0.no cE) (.slice AG x0.nd cG) x0.no x0.nd go' x0.gd, thC V [.int .i64 0, .int .i64 (-1), .bool false, .slice AR n cR], thY (.slice AR n cR) n F, thS sc wd p, thS sb wb p, thB qb 130 (plf sc (fun _ => none)), thB pb 130 (plf sb (nr')), thY (.slice AQ n cQ) n G1, thC X [.int .i64 kK, .int .i64 9, .int .i64 0, .int .i64 (p.s c).ad, .int .i64 7000, .int .i64 (p.s c).po, .int .i64 x0.tp, .int .i64 x0.flags, .int .i64 x0.label, .bool x0.bare, .int .i64 cK, .slice AO x0.no cO, .slice AD x0.nd cD], thOD 0 (.slice AO x0.no cO) (.slice AD x0.nd cD) x0.no x0.nd x0.go x0.gd, thC Z [.int .i64 (p.s c).st, .int .i64 (p.s c).ad, .int .i64 (p.s c).po, .int .i64 (p.s c).we, .int .i64 (p.s c).si], thB P 330 (pc p)]) := hid (HS.setC (A := []) (HS.setC (A := []) (HS.setC (A := []) (HS.setC (A := []) S19.out 3 (.int .i64 7000) (by simp)) 5 (.int .i64 x0.tp) (by simp)) 4 (.int .i64 10) (by simp)) 6 (.int .i64 80) (by simp))
        clear S19 y0 y1 y2 y3 y4 y5 y6 y7 y8 y9 y10 y11 y12 hf hf3 hf4 hf5 hf6
        have S21 : Hid (HS [] W _ [thC U [.int .i64 kK, .int .i64 8, .int .i64 0, .int .i64 7000, .int .i64 10, .int .i64 x0.tp, .int .i64 80, .int .i64 x0.flags, .int .i64 lb, .bool x0.bare, .int .i64 cK, .slice AE x0.no cE, .slice AG x0.nd cG], thOD 0 (.slice AE x0.no cE) (.slice AG x0.nd cG) x0.no x0.nd go' x0.gd, thY (.slice AR n cR) n F, thS sc wd p, thS sb wb p, thB qb 130 (plf sc (fun _ => none)), thB pb 130 (plf sb (nr')), thY (.slice AQ n cQ) n G1, thC X [.int .i64 kK, .int .i64 9, .int .i64 0, .int .i64 (p.s c).ad, .int .i64 7000, .int .i64 (p.s c).po, .int .i64 x0.tp, .int .i64 x0.flags, .int .i64 x0.label, .bool x0.bare, .int .i64 cK, .slice AO x0.no cO, .slice AD x0.nd cD], thOD 0 (.slice AO x0.no cO) (.slice AD x0.nd cD) x0.no x0.nd x0.go x0.gd, thC Z [.int .i64 (p.s c).st, .int .i64 (p.s c).ad, .int .i64 (p.s c).po, .int .i64 (p.s c).we, .int .i64 (p.s c).si], thB P 330 (pc p)]) := hid (HS.drop (A := [thC U [.int .i64 kK, .int .i64 8, .int .i64 0, .int .i64 7000, .int .i64 10, .int .i64 x0.tp, .int .i64 80, .int .i64 x0.flags, .int .i64 lb, .bool x0.bare, .int .i64 cK, .slice AE x0.no cE, .slice AG x0.nd cG], thOD 0 (.slice AE x0.no cE) (.slice AG x0.nd cG) x0.no x0.nd go' x0.gd]) (t := thC V [.int .i64 0, .int .i64 (-1), .bool false, .slice AR n cR]) (B := [thY (.slice AR n cR) n F, thS sc wd p, thS sb wb p, thB qb 130 (plf sc (fun _ => none)), thB pb 130 (plf sb (nr')), thY (.slice AQ n cQ) n G1, thC X [.int .i64 kK, .int .i64 9, .int .i64 0, .int .i64 (p.s c).ad, .int .i64 7000, .int .i64 (p.s c).po, .int .i64 x0.tp, .int .i64 x0.flags, .int .i64 x0.label, .bool x0.bare, .int .i64 cK, .slice AO x0.no cO, .slice AD x0.nd cD], thOD 0 (.slice AO x0.no cO) (.slice AD x0.nd cD) x0.no x0.nd x0.go x0.gd, thC Z [.int .i64 (p.s c).st, .int .i64 (p.s c).ad, .int .i64 (p.s c).po, .int .i64 (p.s c).we, .int .i64 (p.s c).si], thB P 330 (pc p)]) S20.out)
        clear S20
        have S22 : Hid (HS [] W _ [thC U [.int .i64 kK, .int .i64 8, .int .i64 0, .int .i64 7000, .int .i64 10, .int .i64 x0.tp, .int .i64 80, .int .i64 x0.flags, .int .i64 lb, .bool x0.bare, .int .i64 cK, .slice AE x0.no cE, .slice AG x0.nd cG], thOD 0 (.slice AE x0.no cE) (.slice AG x0.nd cG) x0.no x0.nd go' x0.gd, thS sc wd p, thS sb wb p, thB qb 130 (plf sc (fun _ => none)), thB pb 130 (plf sb (nr')), thY (.slice AQ n cQ) n G1, thC X [.int .i64 kK, .int .i64 9, .int .i64 0, .int .i64 (p.s c).ad, .int .i64 7000, .int .i64 (p.s c).po, .int .i64 x0.tp, .int .i64 x0.flags, .int .i64 x0.label, .bool x0.bare, .int .i64 cK, .slice AO x0.no cO, .slice AD x0.nd cD], thOD 0 (.slice AO x0.no cO) (.slice AD x0.nd cD) x0.no x0.nd x0.go x0.gd, thC Z [.int .i64 (p.s c).st, .int .i64 (p.s c).ad, .int .i64 (p.s c).po, .int .i64 (p.s c).we, .int .i64 (p.s c).si], thB P 330 (pc p)]) := hid (HS.drop (A := [thC U [.int .i64 kK, .int .i64 8, .int .i64 0, .int .i64 7000, .int .i64 10, .int .i64 x0.tp, .int .i64 80, .int .i64 x0.flags, .int .i64 lb, .bool x0.bare, .int .i64 cK, .slice AE x0.no cE, .slice AG x0.nd cG], thOD 0 (.slice AE x0.no cE) (.slice AG x0.nd cG) x0.no x0.nd go' x0.gd]) (t := thY (.slice AR n cR) n F) (B := [thS sc wd p, thS sb wb p, thB qb 130 (plf sc (fun _ => none)), thB pb 130 (plf sb (nr')), thY (.slice AQ n cQ) n G1, thC X [.int .i64 kK, .int .i64 9, .int .i64 0, .int .i64 (p.s c).ad, .int .i64 7000, .int .i64 (p.s c).po, .int .i64 x0.tp, .int .i64 x0.flags, .int .i64 x0.label, .bool x0.bare, .int .i64 cK, .slice AO x0.no cO, .slice AD x0.nd cD], thOD 0 (.slice AO x0.no cO) (.slice AD x0.nd cD) x0.no x0.nd x0.go x0.gd, thC Z [.int .i64 (p.s c).st, .int .i64 (p.s c).ad, .int .i64 (p.s c).po, .int .i64 (p.s c).we, .int .i64 (p.s c).si], thB P 330 (pc p)]) S21.out)
        clear S21
        have S23 : Hid (HS [] W _ [thC U [.int .i64 kK, .int .i64 8, .int .i64 0, .int .i64 7000, .int .i64 10, .int .i64 x0.tp, .int .i64 80, .int .i64 x0.flags, .int .i64 lb, .bool x0.bare, .int .i64 cK, .slice AE x0.no cE, .slice AG x0.nd cG], thOD 0 (.slice AE x0.no cE) (.slice AG x0.nd cG) x0.no x0.nd go' x0.gd, thS sc wd p, thS sb wb p, thB qb 130 (plf sc (fun _ => none)), thB pb 130 (plf sb (nr')), thC X [.int .i64 kK, .int .i64 9, .int .i64 0, .int .i64 (p.s c).ad, .int .i64 7000, .int .i64 (p.s c).po, .int .i64 x0.tp, .int .i64 x0.flags, .int .i64 x0.label, .bool x0.bare, .int .i64 cK, .slice AO x0.no cO, .slice AD x0.nd cD], thOD 0 (.slice AO x0.no cO) (.slice AD x0.nd cD) x0.no x0.nd x0.go x0.gd, thC Z [.int .i64 (p.s c).st, .int .i64 (p.s c).ad, .int .i64 (p.s c).po, .int .i64 (p.s c).we, .int .i64 (p.s c).si], thB P 330 (pc p)]) := hid (HS.drop (A := [thC U [.int .i64 kK, .int .i64 8, .int .i64 0, .int .i64 7000, .int .i64 10, .int .i64 x0.tp, .int .i64 80, .int .i64 x0.flags, .int .i64 lb, .bool x0.bare, .int .i64 cK, .slice AE x0.no cE, .slice AG x0.nd cG], thOD 0 (.slice AE x0.no cE) (.slice AG x0.nd cG) x0.no x0.nd go' x0.gd, thS sc wd p, thS sb wb p, thB qb 130 (plf sc (fun _ => none)), thB pb 130 (plf sb (nr'))]) (t := thY (.slice AQ n cQ) n G1) (B := [thC X [.int .i64 kK, .int .i64 9, .int .i64 0, .int .i64 (p.s c).ad, .int .i64 7000, .int .i64 (p.s c).po, .int .i64 x0.tp, .int .i64 x0.flags, .int .i64 x0.label, .bool x0.bare, .int .i64 cK, .slice AO x0.no cO, .slice AD x0.nd cD], thOD 0 (.slice AO x0.no cO) (.slice AD x0.nd cD) x0.no x0.nd x0.go x0.gd, thC Z [.int .i64 (p.s c).st, .int .i64 (p.s c).ad, .int .i64 (p.s c).po, .int .i64 (p.s c).we, .int .i64 (p.s c).si], thB P 330 (pc p)]) S22.out)
        clear S22 HCQ HCR
        obtain ⟨y0, y1, y2, y3, y4, y5, y6, y7, y8, y9, y10, y11, y12⟩ := (S23.out.ce 0 rfl).c13
        go_wp2_with fail
        refine (BLD2.out _ _ S23.out _ _ _ _ (S23.out.byO 1 rfl).1 (S23.out.byO 1 rfl).2).mono ?_
        rintro e w13 ⟨AQ, cQ, rfl, hz, hcc⟩
        have S24 : Hid (HS [] W w13 [thY (.slice AQ n cQ) n G2, thC U [.int .i64 kK, .int .i64 8, .int .i64 0, .int .i64 7000, .int .i64 10, .int .i64 x0.tp, .int .i64 80, .int .i64 x0.flags, .int .i64 lb, .bool x0.bare, .int .i64 cK, .slice AE x0.no cE, .slice AG x0.nd cG], thOD 0 (.slice AE x0.no cE) (.slice AG x0.nd cG) x0.no x0.nd go' x0.gd, thS sc wd p, thS sb wb p, thB qb 130 (plf sc (fun _ => none)), thB pb 130 (plf sb (nr')), thC X [.int .i64 kK, .int .i64 9, .int .i64 0, .int .i64 (p.s c).ad, .int .i64 7000, .int .i64 (p.s c).po, .int .i64 x0.tp, .int .i64 x0.flags, .int .i64 x0.label, .bool x0.bare, .int .i64 cK, .slice AO x0.no cO, .slice AD x0.nd cD], thOD 0 (.slice AO x0.no cO) (.slice AD x0.nd cD) x0.no x0.nd x0.go x0.gd, thC Z [.int .i64 (p.s c).st, .int .i64 (p.s c).ad, .int .i64 (p.s c).po, .int .i64 (p.s c).we, .int .i64 (p.s c).si], thB P 330 (pc p)]) := hid (hz)
        clear hz S23 y0 y1 y2 y3 y4 y5 y6 y7 y8 y9 y10 y11 y12 BLD2
        have HCQ := hid hcc
        clear hcc
        go_simp
        rcases HCH.out _ rfl with hd | ⟨k2, c2, F2, hd, hb2, hq2, hw2⟩
        · have T2 := hid hd
          clear hd HCH
          go_wp2_with fail
          refine (c_take (A := [thY (.slice AQ n cQ) n G2, thC U [.int .i64 kK, .int .i64 8, .int .i64 0, .int .i64 7000, .int .i64 10, .int .i64 x0.tp, .int .i64 80, .int .i64 x0.flags, .int .i64 lb, .bool x0.bare, .int .i64 cK, .slice AE x0.no cE, .slice AG x0.nd cG], thOD 0 (.slice AE x0.no cE) (.slice AG x0.nd cG) x0.no x0.nd go' x0.gd, thS sc wd p, thS sb wb p]) (B := [thB pb 130 (plf sb (nr')), thC X [.int .i64 kK, .int .i64 9, .int .i64 0, .int .i64 (p.s c).ad, .int .i64 7000, .int .i64 (p.s c).po, .int .i64 x0.tp, .int .i64 x0.flags, .int .i64 x0.label, .bool x0.bare, .int .i64 cK, .slice AO x0.no cO, .slice AD x0.nd cD], thOD 0 (.slice AO x0.no cO) (.slice AD x0.nd cD) x0.no x0.nd x0.go x0.gd, thC Z [.int .i64 (p.s c).st, .int .i64 (p.s c).ad, .int .i64 (p.s c).po, .int .i64 (p.s c).we, .int .i64 (p.s c).si], thB P 330 (pc p)]) S24.out (S24.out.st 3 rfl) HNE1.out HPT.out HN0.out G2 n cQ AQ BG2.out (by have := HN15.out; omega) (fun _ => by rw [KG2.out]; exact NK.out) (S24.out.by_ 0 rfl) HCQ.out _ T2.out).mono ?_
          rintro e w14 ⟨AR, cR, rfl, hz, hcc⟩
          dsimp only [dropT] at hz hcc ⊢
          have S25 : Hid (HS [] W w14 [thY (.slice AR (0) cR) (0) (fun _ => 0), thY (.slice AQ n cQ) n G2, thC U [.int .i64 kK, .int .i64 8, .int .i64 0, .int .i64 7000, .int .i64 10, .int .i64 x0.tp, .int .i64 80, .int .i64 x0.flags, .int .i64 lb, .bool x0.bare, .int .i64 cK, .slice AE x0.no cE, .slice AG x0.nd cG], thOD 0 (.slice AE x0.no cE) (.slice AG x0.nd cG) x0.no x0.nd go' x0.gd, thS sc wd p, thS sb wb p, thB qb 130 (plf sc (fun _ => none)), thB pb 130 (plf sb (nr')), thC X [.int .i64 kK, .int .i64 9, .int .i64 0, .int .i64 (p.s c).ad, .int .i64 7000, .int .i64 (p.s c).po, .int .i64 x0.tp, .int .i64 x0.flags, .int .i64 x0.label, .bool x0.bare, .int .i64 cK, .slice AO x0.no cO, .slice AD x0.nd cD], thOD 0 (.slice AO x0.no cO) (.slice AD x0.nd cD) x0.no x0.nd x0.go x0.gd, thC Z [.int .i64 (p.s c).st, .int .i64 (p.s c).ad, .int .i64 (p.s c).po, .int .i64 (p.s c).we, .int .i64 (p.s c).si], thB P 330 (pc p)]) := hid (hz)
          clear hz S24
          have HCR := hid hcc
          clear hcc
          go_simp
          go_upto_region 24 with (first | ((with_reducible refine wl_id ?_); refine wl_ow rfl (ow_allocC rfl (zOc _) (by simp) S25.out ?_); intro V w_ hZ _; have SY := hid hZ; clear hZ) | ((with_reducible refine wl_id ?_); refine wl_ow rfl (ow_storeC (A := []) [.int .i64 9, .int .i64 (-1), .bool false, .slice AR 0 cR] rfl rfl (rfl) SY.out rfl iOc rfl ?_); intro w_ hZ; have SX := hid hZ; clear hZ))
          have S26 : Hid (HS [] W _ [thC V [.int .i64 9, .int .i64 (-1), .bool false, .slice AR 0 cR], thY (.slice AR (0) cR) (0) (fun _ => 0), thY (.slice AQ n cQ) n G2, thC U [.int .i64 kK, .int .i64 8, .int .i64 0, .int .i64 7000, .int .i64 10, .int .i64 x0.tp, .int .i64 80, .int .i64 x0.flags, .int .i64 lb, .bool x0.bare, .int .i64 cK, .slice AE x0.no cE, .slice AG x0.nd cG], thOD 0 (.slice AE x0.no cE) (.slice AG x0.nd cG) x0.no x0.nd go' x0.gd, thS sc wd p, thS sb wb p, thB qb 130 (plf sc (fun _ => none)), thB pb 130 (plf sb (nr')), thC X [.int .i64 kK, .int .i64 9, .int .i64 0, .int .i64 (p.s c).ad, .int .i64 7000, .int .i64 (p.s c).po, .int .i64 x0.tp, .int .i64 x0.flags, .int .i64 x0.label, .bool x0.bare, .int .i64 cK, .slice AO x0.no cO, .slice AD x0.nd cD], thOD 0 (.slice AO x0.no cO) (.slice AD x0.nd cD) x0.no x0.nd x0.go x0.gd, thC Z [.int .i64 (p.s c).st, .int .i64 (p.s c).ad, .int .i64 (p.s c).po, .int .i64 (p.s c).we, .int .i64 (p.s c).si], thB P 330 (pc p)]) := hid (SX.out)
          clear SX SY S25
          obtain ⟨f0, f1, f2, f3⟩ := (S26.out.ce 0 rfl).c4
          go_wp2_with fail
          go_ret
          exact ⟨rfl, S26.out.bl⟩
        · have T2 := hid hd
          have HB2 := hid hb2
          have HW2 := hid hw2
          clear hd HCH hb2 hq2 hw2
          go_wp2_with fail
          refine (c_take (A := [thY (.slice AQ n cQ) n G2, thC U [.int .i64 kK, .int .i64 8, .int .i64 0, .int .i64 7000, .int .i64 10, .int .i64 x0.tp, .int .i64 80, .int .i64 x0.flags, .int .i64 lb, .bool x0.bare, .int .i64 cK, .slice AE x0.no cE, .slice AG x0.nd cG], thOD 0 (.slice AE x0.no cE) (.slice AG x0.nd cG) x0.no x0.nd go' x0.gd, thS sc wd p, thS sb wb p]) (B := [thB pb 130 (plf sb (nr')), thC X [.int .i64 kK, .int .i64 9, .int .i64 0, .int .i64 (p.s c).ad, .int .i64 7000, .int .i64 (p.s c).po, .int .i64 x0.tp, .int .i64 x0.flags, .int .i64 x0.label, .bool x0.bare, .int .i64 cK, .slice AO x0.no cO, .slice AD x0.nd cD], thOD 0 (.slice AO x0.no cO) (.slice AD x0.nd cD) x0.no x0.nd x0.go x0.gd, thC Z [.int .i64 (p.s c).st, .int .i64 (p.s c).ad, .int .i64 (p.s c).po, .int .i64 (p.s c).we, .int .i64 (p.s c).si], thB P 330 (pc p)]) S24.out (S24.out.st 3 rfl) HNE1.out HPT.out HN0.out G2 n cQ AQ BG2.out (by have := HN15.out; omega) (fun _ => by rw [KG2.out]; exact NK.out) (S24.out.by_ 0 rfl) HCQ.out _ T2.out).mono ?_
          rintro e w14 ⟨AR, cR, rfl, hz, hcc⟩
          dsimp only [dropT] at hz hcc ⊢
          have S25 : Hid (HS [] W w14 [thY (.slice AR n cR) n F2, thY (.slice AQ n cQ) n G2, thC U [.int .i64 kK, .int .i64 8, .int .i64 0, .int .i64 7000, .int .i64 10, .int .i64 x0.tp, .int .i64 80, .int .i64 x0.flags, .int .i64 lb, .bool x0.bare, .int .i64 cK, .slice AE x0.no cE, .slice AG x0.nd cG], thOD 0 (.slice AE x0.no cE) (.slice AG x0.nd cG) x0.no x0.nd go' x0.gd, thS sc wd p, thS sb wb p, thB qb 130 (plf sc (fun _ => none)), thB pb 130 (plf sb (nr')), thC X [.int .i64 kK, .int .i64 9, .int .i64 0, .int .i64 (p.s c).ad, .int .i64 7000, .int .i64 (p.s c).po, .int .i64 x0.tp, .int .i64 x0.flags, .int .i64 x0.label, .bool x0.bare, .int .i64 cK, .slice AO x0.no cO, .slice AD x0.nd cD], thOD 0 (.slice AO x0.no cO) (.slice AD x0.nd cD) x0.no x0.nd x0.go x0.gd, thC Z [.int .i64 (p.s c).st, .int .i64 (p.s c).ad, .int .i64 (p.s c).po, .int .i64 (p.s c).we, .int .i64 (p.s c).si], thB P 330 (pc p)]) := hid (hz)
          clear hz S24
          have HCR := hid hcc
          clear hcc
          go_simp
          go_upto_region 24 with (first | ((with_reducible refine wl_id ?_); refine wl_ow rfl (ow_allocC rfl (zOc _) (by simp) S25.out ?_); intro V w_ hZ _; have SY := hid hZ; clear hZ) | ((with_reducible refine wl_id ?_); refine wl_ow rfl (ow_storeC (A := []) [.int .i64 0, .int .i64 k2, .bool c2, .slice AR n cR] rfl rfl (rfl) SY.out rfl iOc rfl ?_); intro w_ hZ; have SX := hid hZ; clear hZ))
          have S26 : Hid (HS [] W _ [thC V [.int .i64 0, .int .i64 k2, .bool c2, .slice AR n cR], thY (.slice AR n cR) n F2, thY (.slice AQ n cQ) n G2, thC U [.int .i64 kK, .int .i64 8, .int .i64 0, .int .i64 7000, .int .i64 10, .int .i64 x0.tp, .int .i64 80, .int .i64 x0.flags, .int .i64 lb, .bool x0.bare, .int .i64 cK, .slice AE x0.no cE, .slice AG x0.nd cG], thOD 0 (.slice AE x0.no cE) (.slice AG x0.nd cG) x0.no x0.nd go' x0.gd, thS sc wd p, thS sb wb p, thB qb 130 (plf sc (fun _ => none)), thB pb 130 (plf sb (nr')), thC X [.int .i64 kK, .int .i64 9, .int .i64 0, .int .i64 (p.s c).ad, .int .i64 7000, .int .i64 (p.s c).po, .int .i64 x0.tp, .int .i64 x0.flags, .int .i64 x0.label, .bool x0.bare, .int .i64 cK, .slice AO x0.no cO, .slice AD x0.nd cD], thOD 0 (.slice AO x0.no cO) (.slice AD x0.nd cD) x0.no x0.nd x0.go x0.gd, thC Z [.int .i64 (p.s c).st, .int .i64 (p.s c).ad, .int .i64 (p.s c).po, .int .i64 (p.s c).we, .int .i64 (p.s c).si], thB P 330 (pc p)]) := hid (SX.out)
          clear SX SY S25
          obtain ⟨f0, f1, f2, f3⟩ := (S26.out.ce 0 rfl).c4
          have nn : ((n : Int) == n) = true := by simp
          go_wp2_with fail
          refine (WHO.out _ _ _ HCR.out F2 HB2.out HW2.out (S26.out.by_ 1 rfl)).mono ?_
          rintro e w15 ⟨rfl, hb⟩
          have S27 : Hid (HS [] W w15 [thC V [.int .i64 0, .int .i64 k2, .bool c2, .slice AR n cR], thY (.slice AR n cR) n F2, thY (.slice AQ n cQ) n G2, thC U [.int .i64 kK, .int .i64 8, .int .i64 0, .int .i64 7000, .int .i64 10, .int .i64 x0.tp, .int .i64 80, .int .i64 x0.flags, .int .i64 lb, .bool x0.bare, .int .i64 cK, .slice AE x0.no cE, .slice AG x0.nd cG], thOD 0 (.slice AE x0.no cE) (.slice AG x0.nd cG) x0.no x0.nd go' x0.gd, thS sc wd p, thS sb wb p, thB qb 130 (plf sc (fun _ => none)), thB pb 130 (plf sb (nr')), thC X [.int .i64 kK, .int .i64 9, .int .i64 0, .int .i64 (p.s c).ad, .int .i64 7000, .int .i64 (p.s c).po, .int .i64 x0.tp, .int .i64 x0.flags, .int .i64 x0.label, .bool x0.bare, .int .i64 cK, .slice AO x0.no cO, .slice AD x0.nd cD], thOD 0 (.slice AO x0.no cO) (.slice AD x0.nd cD) x0.no x0.nd x0.go x0.gd, thC Z [.int .i64 (p.s c).st, .int .i64 (p.s c).ad, .int .i64 (p.s c).po, .int .i64 (p.s c).we, .int .i64 (p.s c).si], thB P 330 (pc p)]) := hid (S26.out.below hb)
          clear hb S26 f0 f1 f2 f3
          go_simp
          obtain ⟨f0, f1, f2, f3⟩ := (S27.out.ce 0 rfl).c4
          go_wp2_with fail
          go_ret
          exact ⟨by simp, S27.out.bl⟩

set_option maxRecDepth 100000 in
theorem lifted (os : Os) (started : os.Started) (H : Type) (enc : TypeId × Value → H) :
    ReturnsInHanded {} Tryz.checked os 6 .any (Rows.topChainSpec.pre6 enc Tryz.prog Tryz.f6 [] false) (Rows.topChainSpec.post enc Tryz.prog Tryz.f6 false true false false) :=
  law_step (s := Rows.topChainSpec) started (by kernel_rfl) Tryz.func6
    (ChangeSpec.witness6 (s := Rows.topChainSpec) (enc := enc) (C := Tryz.checked) false ⟨#[], #[.slice none 0 0, .int .i64 0, .slice none 0 0, .slice none 0 0, .int .i64 0], []⟩ 8 (by kernel_rfl) (by kernel_rfl) (by kernel_rfl) (by kernel_rfl))
    rfl (by rw [Tryz.params6]; decide +kernel) rfl Tryz.underlying4
    (fun ds h => by
      rw [Tryz.params6] at h
      match ds, h with
      | [_, _, _, _, _], _ => rfl)
    (fun W base args ds ps hval hA hsz => by
      rw [Tryz.params6] at hA hval hsz
      obtain ⟨v0, vs0, d0, ds0, p0, q0, hargs, rfl, rfl, h0, r0⟩ := trodAll_cons hA
      obtain ⟨v1, vs1, d1, ds1, p1, q1, rfl, rfl, rfl, h1, r1⟩ := trodAll_cons r0
      obtain ⟨v2, vs2, d2, ds2, p2, q2, rfl, rfl, rfl, h2, r2⟩ := trodAll_cons r1
      obtain ⟨v3, vs3, d3, ds3, p3, q3, rfl, rfl, rfl, h3, r3⟩ := trodAll_cons r2
      obtain ⟨v4, vs4, d4, ds4, p4, q4, rfl, rfl, rfl, h4, r4⟩ := trodAll_cons r3
      obtain ⟨rfl, rfl, rfl⟩ := trodAll_nil r4
      obtain rfl : args = #[v0, v1, v2, v3, v4] := by cases args; simp_all
      obtain ⟨A0, n0, c0, g0, rfl, hn0, hc0, hs0, hw0, hl0, hd0⟩ := open_row Tryz.underlying22 Tryz.underlying3 (by kernel_rfl) (hval 0 22 v0 rfl rfl) h0
      have re0 : c0 * 8 ≤ 140737488351232 := by
        rcases hd0 with ⟨_, h0⟩ | ⟨xs, ys, h1, h2⟩
        · omega
        · have := sized_slice hsz (j := 0) (t := 22) (e := 3) rfl (by rw [h1]; rfl) Tryz.underlying22
          rw [h2, show Tryz.prog.bytesOf 3 = 8 from by kernel_rfl] at this
          simpa [reachBytes] using this
      obtain ⟨a1, rfl, rfl, rfl, w1⟩ := open_int Tryz.underlying3 (hval 1 3 v1 rfl rfl) h1
      obtain ⟨A2, n2, c2, g2, rfl, hn2, hc2, hs2, hw2, hl2, hd2⟩ := open_row Tryz.underlying22 Tryz.underlying3 (by kernel_rfl) (hval 2 22 v2 rfl rfl) h2
      have re2 : c2 * 8 ≤ 140737488351232 := by
        rcases hd2 with ⟨_, h0⟩ | ⟨xs, ys, h1, h2⟩
        · omega
        · have := sized_slice hsz (j := 2) (t := 22) (e := 3) rfl (by rw [h1]; rfl) Tryz.underlying22
          rw [h2, show Tryz.prog.bytesOf 3 = 8 from by kernel_rfl] at this
          simpa [reachBytes] using this
      obtain ⟨A3, n3, c3, g3, rfl, hn3, hc3, hs3, hw3, hl3, hd3⟩ := open_row Tryz.underlying35 Tryz.underlying5 (by kernel_rfl) (hval 3 35 v3 rfl rfl) h3
      have re3 : c3 * 1 ≤ 140737488351232 := by
        rcases hd3 with ⟨_, h0⟩ | ⟨xs, ys, h1, h2⟩
        · omega
        · have := sized_slice hsz (j := 3) (t := 35) (e := 5) rfl (by rw [h1]; rfl) Tryz.underlying35
          rw [h2, show Tryz.prog.bytesOf 5 = 1 from by kernel_rfl] at this
          simpa [reachBytes] using this
      obtain ⟨a4, rfl, rfl, rfl, w4⟩ := open_int Tryz.underlying3 (hval 4 3 v4 rfl rfl) h4
      exact walk W A0 n0 c0 g0 hn0 hc0 hs0 (fun j => bounds_i64 (hw0 j)) hl0 re0 a1 (bounds_i64 w1) A2 n2 c2 g2 hn2 hc2 hs2 (fun j => bounds_i64 (hw2 j)) hl2 re2 A3 n3 c3 g3 hn3 hc3 hs3 (fun j => bounds_u8 (hw3 j)) hl3 re3 a4 (bounds_i64 w4))

theorem proved : Rows.TopChainSaid :=
  OpenClaim.holds_of_wide 6 Tryz.f6 rfl rfl rfl rfl rfl rfl rfl ⟨rfl, rfl, rfl, rfl, rfl⟩ rfl rfl rfl rfl rfl (by kernel_rfl) Tryz.func6 (by kernel_rfl)
    (of_decide_eq_true (by kernel_rfl)) (by unfold Func.isWrapper; first | (rw [if_pos (by decide +kernel)]; kernel_rfl) | (rw [if_neg (by decide +kernel)]; exact ⟨rfl, rfl⟩))
    (fun os started H enc _ => lifted os started H enc)
end Go.Proofs.YtomlpkojnipkhaaGreat.topChain

