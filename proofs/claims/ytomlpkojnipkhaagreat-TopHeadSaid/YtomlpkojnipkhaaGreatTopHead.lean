/- roundhousetop.TopHead answers true for every two rows; no condition. -/
import Derived.Test.YtomlpkojnipkhaaGreatGa
import Derived.Test.YtomlpkojnipkhaaGreatTopHdM
import Derived.Test.YtomlpkojnipkhaaGreatHdLaw
import Derived.Deep.LoopGhost
import Derived.Deep.CutRange
import Derived.IntWalk
import Derived.BigQuiet
import Derived.Deep.RegionHeld3
import Derived.Deep.Cut
namespace Go.Proofs.YtomlpkojnipkhaaGreat.topHead
set_option linter.unusedVariables false
set_option linter.unusedSimpArgs false
open Go.RowKit Go.ChangeShapes Go.WideShapes Go.ChangeAt

attribute [local irreducible] FA FL
theorem ex_neqE {o : Oper} {f : Operand → Value} (x y : Operand) (ho : o.op = .binOp .neq 79 x y 79) (X : En) (hx : f x = enV X) (hy : f y = enV X) (w : World) : (execOp f o).run Tryz.prog w = .ok (.value (.bool false)) w := by
  have h := ex_neq x y ho X X hx hy w
  rw [show eqE X X = true from by unfold eqE eqK; simp] at h
  exact h
theorem ex_neqF {o : Oper} {f : Operand → Value} (x y : Operand) (ho : o.op = .binOp .neq 33 x y 33) (p : Pl) (hx : f x = .agg (FA 330 (pc p))) (hy : f y = .agg (FA 330 (pc p))) (w : World) : (execOp f o).run Tryz.prog w = .ok (.value (.bool false)) w :=
  ex_neql x y ho p (by rw [pa_fa]; exact hx) (by rw [pa_fa]; exact hy) w
theorem zEnC (w : World) : (zeroValue 79).run Tryz.prog w = .ok (.agg ([.int .i64 0, .int .i64 0, .int .i64 0, .int .i64 0, .int .i64 0, .int .u64 0, .int .u64 0] : List Value).toArray) w := by kernel_rfl
theorem iEnC : (Tryz.prog.info? 79).map (·.size) = some 7 := by kernel_rfl
theorem build_nt24F (v : Int) (w : World) : (Instr.build 90 #[(2, .int .i64 v), (4, .bool true)]).run Tryz.prog w = .ok (.agg (FA 342 (ntc ⟨0, 0, v, false, true, zEn, zPl⟩))) w := run_build w _ _ _ (by kernel_rfl)
theorem ldF {S : List Nat} {W w : World} {L : List Th} {p : Pl} {b k : Nat} (h : HS S W w L) (hk : L[k]? = some (thB b 330 (pc p))) : (Instr.loadAt 33 (.pointer (some ⟨b, 0, none⟩))).run Tryz.prog w = .ok (.agg (FA 330 (pc p))) w := (h.fb k hk).load 0 330 (pc p) (by omega) (fun j hj => by rw [Nat.zero_add]) Tryz.underlying33 rfl info_pl2
set_option maxRecDepth 100000 in
set_option maxHeartbeats 8000000 in
theorem walk (W : World) (A1 : Option Addr) (n1 c1 : Nat) (g1 : Nat → Int) (hn1 : n1 ≤ c1) (hc1 : c1 ≤ maxLen) (hr1 : Is W A1 n1 g1) (hg1 : IsI g1) (hl1 : ∀ ad, A1 = some ad → 0 < n1 → ad.block < W.heap.size) (re1 : c1 * 8 ≤ 140737488351232) (A2 : Option Addr) (n2 c2 : Nat) (g2 : Nat → Int) (hn2 : n2 ≤ c2) (hc2 : c2 ≤ maxLen) (hr2 : Is W A2 n2 g2) (hg2 : IsI g2) (hl2 : ∀ ad, A2 = some ad → 0 < n2 → ad.block < W.heap.size) (re2 : c2 * 8 ≤ 140737488351232) :
    Calls Tryz.prog 8 #[.slice A1 n1 c1, .slice A2 n2 c2] W fun e w' => e = .returned (.bool true) ∧ Below W.heap.size W w' := by
  have HR2 := hid (show ∀ (w : World) (L : List Th), HS [] W w L → Is w A2 n2 g2 from fun w L h => hr2.below h.bl (Nat.le_refl _))
  unfold maxLen at hc2
  have hnm2 : (n2 : Int) ≤ 9223372036854775807 := by have := hn2; omega
  clear hr2 hl2 hg2 re2 hn2 hc2
  obtain ⟨p, hp⟩ : ∃ p, p = mkP g1 (min n1 30) := ⟨_, rfl⟩
  have HPI := hid (show Pinv p 30 from by rw [hp]; exact (mkP_inv g1 _).mono (by omega))
  have HPW := hid (show Pw p from by rw [hp]; exact mk_pw g1 _)
  have MK := hid (fun (w : World) (hb : Below W.heap.size W w) => (show Calls Tryz.prog 10 #[.slice A1 n1 c1, .int .i64 30] w fun x w' => x = .returned (.agg (FA 330 (pc p))) ∧ Below w.heap.size w w' from by rw [hp]; exact mk_top W A1 n1 c1 g1 hr1 hl1 hn1 hc1 30 (by decide) w hb))
  clear hp hr1 hl1 hg1 re1 hn1 hc1
  have S0 : Hid (HS [] W W []) := hid HS.start
  obtain ⟨pv, hpv⟩ : ∃ x, p.v = x := ⟨_, rfl⟩
  have HPV := hid hpv
  have hv1 : 0 ≤ pv := by rw [← hpv]; exact HPI.out.1.1
  have hv2 : pv ≤ 30 := by rw [← hpv]; exact HPI.out.1.2
  clear hpv
  go_enter Tryz.func8, Tryz.ntmps8
  go_wp2_with fail
  refine (known_t _).mono ?_
  rintro e w1 ⟨rfl, hb⟩
  have S1 : Hid (HS [] W w1 []) := hid (S0.out.below hb)
  clear hb S0
  go_simp
  go_wp2_with fail
  refine (MK.out _ S1.out.bl).mono ?_
  rintro e w2 ⟨rfl, hb⟩
  have S2 : Hid (HS [] W w2 []) := hid (S1.out.below hb)
  clear hb S1 MK
  go_simp
  go_upto_region 4 with (first | ((with_reducible refine wl_id ?_); refine wl_ow rfl (ow_alloc rfl (zpl2 _) (by omega) S2.out ?_); intro P w_ hZ _; have SA := hid hZ; clear hZ) | ((with_reducible refine wl_id ?_); refine wl_ow rfl (ow_store (A := []) 0 330 (pc p) (pc p) rfl rfl rfl SA.out (by omega) (fun j hj => patch_all _ _ _ j hj) info_pl2 (pc_one _) ?_); intro w_ hZ; have SX := hid hZ; clear hZ))
  have S3 : Hid (HS [] W _ [thB P 330 (pc p)]) := hid (SX.out)
  clear SX SA S2
  have NW := hid (hnew_fa p 1 ⟨by omega, by omega⟩)
  go_wp2_with ((with_reducible refine wl_id ?_); refine wl_ow rfl (ow_load 0 rfl 0 330 (pc p) rfl rfl S3.out (by omega) (fun j hj => by rw [Nat.zero_add]) Tryz.underlying33 rfl info_pl2 ?_))
  refine (NW.out _).mono ?_
  rintro x w100 ⟨b, c, m, rfl, hH, hg1, hg2, hg3, hB⟩
  have S4 : Hid (HS [] W w100 [thH b c m 1 (newH p 1), thB P 330 (pc p)]) := hid (HS.addH S3.out hH hg1 hg2 hg3 hB)
  clear hH hg1 hg2 hg3 hB NW S3
  go_simp
  go_upto_region 7 with (fail)
  have cp0 : w100.cell? ⟨P, 0, none⟩ = some (.int .i64 pv) := by rw [← HPV.out]; exact (S4.out.fb 1 rfl).2.1 0 (by omega)
  apply wp_region_lit
  refine wl_val (v := ?_) rfl ?_ ?_; rotate_left; (focus ( go_simp; (try with_reducible rfl))); (try simp only [Act.put, List.setIfInBounds_toArray, List.set_cons_zero, List.set_cons_succ])
  refine wl_val (v := ?_) rfl ?_ ?_; rotate_left; (focus ( go_simp; (try with_reducible rfl))); (try simp only [Act.put, List.setIfInBounds_toArray, List.set_cons_zero, List.set_cons_succ])
  refine wl_val (v := ?_) rfl ?_ ?_; rotate_left; (focus ( go_simp; (try with_reducible rfl))); (try simp only [Act.put, List.setIfInBounds_toArray, List.set_cons_zero, List.set_cons_succ])
  refine wl_val rfl (ex_build2 rfl rfl rfl (build_nt24F pv _)) ?_
  try simp only [Act.put, List.setIfInBounds_toArray, List.set_cons_zero, List.set_cons_succ]
  go_wp2_with fail
  clear cp0
  refine (heard_fa (S4.out.nth 0 rfl : HeadAt _ b c m (1) (newH p 1)) ⟨0, 0, pv, false, true, zEn, zPl⟩ (show (1 : Nat) ≤ 16 by omega) (by omega) (tpH p zEn) (by rw [← HPV.out]; exact tp_new (by rw [HPV.out]; exact hv1))).mono ?_
  rintro x w104 ⟨rfl, hH, hC⟩
  have S5 : Hid (HS [] W w104 [thH b c m (1 + 1) (tpH p zEn), thB P 330 (pc p)]) := hid (HS.upd (A := []) (B := [thB P 330 (pc p)]) S4.out (thH b c m (1 + 1) (tpH p zEn)) rfl hC hH)
  clear hH hC S4
  go_simp
  have HP0 := hid (show Pinv p 30 from HPI.out)
  clear HPI HPV hv1 hv2
  go_wp2_with fail
  go_loopg [8] 30 (fun gh i wx => ∃ (k nn : Nat) (q : Pl) (e : En), gh = 30 - k ∧ k ≤ 30 ∧ k ≤ n2 ∧ nn ≤ 2 + k ∧ i = .int .i64 (k : Int) ∧ Pinv q (30 + k) ∧ HS [] W wx [thH b c m nn (tpH q e), thB P 330 (pc q)])
  case atStart => exact ⟨0, 1 + 1, p, zEn, by omega, by omega, by omega, by omega, rfl, HP0.out.mono (by omega), S5.out⟩
  case round =>
    clear S5
    obtain ⟨k, nn, q, e, hgh, hk, hkn, hnn, rfl, hpi, hS⟩ := hrel
    have U0 := hid hS
    have HPI := hid hpi
    clear hS hpi
    go_upto_region 9 with (fail)
    obtain ⟨bb, hbb⟩ : ∃ bb : Bool, bb = (decide (k < n2) && decide (k < 30)) := ⟨_, rfl⟩
    have HBB := hid hbb
    clear hbb
    go_cut [40] from 33 to 40 (fun x wx => x = .bool bb ∧ wr = wx)
    case first =>
      by_cases h1 : (k : Int) < n2
      · by_cases h2 : (k : Int) < 30
        · go_wp2_with fail
          go_meet
          exact ⟨by rw [HBB.out]; simp; omega, rfl⟩
        · go_wp2_with fail
          go_meet
          exact ⟨by rw [HBB.out]; simp; omega, rfl⟩
      · go_wp2_with fail
        go_meet
        exact ⟨by rw [HBB.out]; simp; omega, rfl⟩
    case rest =>
      obtain ⟨rfl, rfl⟩ := hcut
      cases bb
      · clear HBB
        go_wp2_with fail
        go_ret
        exact ⟨rfl, U0.out.bl⟩
      · have hkn2 : k < n2 ∧ k < 30 := by have := HBB.out; simp at this; exact this
        obtain ⟨hl1, hl2⟩ := hkn2
        clear HBB
        have i1 : (k : Int) < n2 := by omega
        have i2 : (k : Int) < 30 := by omega
        obtain ⟨bb, off, rfl⟩ := Sl.addr (HR2.out _ _ U0.out) (by omega)
        have RR := hid (fun (w : World) (L : List Th) (h : HS [] W w L) => Sl.at_ (show Sl w (some ⟨bb, off, none⟩) n2 (fun j => .int .i64 (g2 j)) from HR2.out w L h) (j := k) (by omega))
        have EN0 := fun w => entry_any (g2 k) w
        obtain ⟨gk, hgk⟩ : ∃ x, x = g2 k := ⟨_, rfl⟩
        rw [← hgk] at EN0 RR
        clear hgk
        obtain ⟨en, hen⟩ : ∃ en, en = enN gk := ⟨_, rfl⟩
        rw [← hen] at EN0
        clear hen
        unfold enV at EN0
        have EN := hid EN0
        clear EN0
        have hPB := HPI.out.pb (by omega)
        have AP0 := fun w => apply_fa q en hPB w
        obtain ⟨r, hr⟩ : ∃ r, r = (apR q en).1 := ⟨_, rfl⟩
        obtain ⟨er, her⟩ : ∃ er, er = (apR q en).2 := ⟨_, rfl⟩
        rw [← hr, ← her] at AP0
        have AP := hid AP0
        have HR := hid hr
        have HER := hid her
        have HPB := hid hPB
        clear AP0 hr her hPB
        have xc := RR.out _ _ U0.out
        have z1 : (0 : Int) ≤ k := (by omega)
        have z3 : k < n2 := (by omega)
        go_wp2_with fail
        clear xc
        refine (EN.out _).mono ?_
        rintro x w8 ⟨rfl, hb⟩
        have U1 := hid (U0.out.below hb)
        clear hb U0 EN
        go_simp
        go_upto_region 12 with (first | ((with_reducible refine wl_id ?_); refine wl_ow rfl (ow_allocC rfl (zEnC _) (by simp) U1.out ?_); intro X w_ hZ _; have U2 := hid hZ; clear hZ) | ((with_reducible refine wl_id ?_); refine wl_ow rfl (ow_storeC (A := []) [.int .i64 en.k, .int .i64 en.s, .int .i64 en.a, .int .i64 en.p, .int .i64 en.w, .int .u64 en.y.a, .int .u64 en.y.b] rfl rfl (rfl) U2.out rfl iEnC rfl ?_); intro w_ hZ; have U3 := hid hZ; clear hZ))
        clear U1 U2
        have U3b : Hid (HS [] W w_ [thC X [.int .i64 en.k, .int .i64 en.s, .int .i64 en.a, .int .i64 en.p, .int .i64 en.w, .int .u64 en.y.a, .int .u64 en.y.b], thH b c m nn (tpH q e), thB P 330 (pc q)]) := hid U3.out
        clear U3
        obtain ⟨U3, hU3⟩ : ∃ x, x = U3b := ⟨_, rfl⟩
        clear hU3 U3b
        have x0 := (U3.out.ce 0 rfl).2.1 0 _ rfl
        have x1 := (U3.out.ce 0 rfl).2.1 1 _ rfl
        have x2 := (U3.out.ce 0 rfl).2.1 2 _ rfl
        have x3 := (U3.out.ce 0 rfl).2.1 3 _ rfl
        have x4 := (U3.out.ce 0 rfl).2.1 4 _ rfl
        have x5 := (U3.out.ce 0 rfl).2.1 5 _ rfl
        have x6 := (U3.out.ce 0 rfl).2.1 6 _ rfl
        go_wp2_with ((with_reducible refine wl_id ?_); refine wl_ow rfl (ow_load 2 rfl 0 330 (pc q) rfl rfl U3.out (by omega) (fun j hj => by rw [Nat.zero_add]) Tryz.underlying33 rfl info_pl2 ?_))
        clear x0 x1 x2 x3 x4 x5 x6
        refine (AP.out _).mono ?_
        rintro x w10 ⟨rfl, hb⟩
        have U4 := hid (U3.out.below hb)
        clear hb U3 AP
        go_simp
        go_upto_region 13 with (first | ((with_reducible refine wl_id ?_); refine wl_ow rfl (ow_alloc rfl (zpl2 _) (by omega) U4.out ?_); intro Q w_ hZ _; have U5 := hid hZ; clear hZ) | ((with_reducible refine wl_id ?_); refine wl_ow rfl (ow_store (A := []) 0 330 (pc r) (pc r) rfl rfl rfl U5.out (by omega) (fun j hj => patch_all _ _ _ j hj) info_pl2 (pc_one _) ?_); intro w_ hZ; have U6 := hid hZ; clear hZ))
        clear U4 U5
        have U6b : Hid (HS [] W w_ [thB Q 330 (pc r), thC X [.int .i64 en.k, .int .i64 en.s, .int .i64 en.a, .int .i64 en.p, .int .i64 en.w, .int .u64 en.y.a, .int .u64 en.y.b], thH b c m nn (tpH q e), thB P 330 (pc q)]) := hid U6.out
        clear U6
        have x0 := (U6b.out.ce 1 rfl).2.1 0 _ rfl
        have x1 := (U6b.out.ce 1 rfl).2.1 1 _ rfl
        have x2 := (U6b.out.ce 1 rfl).2.1 2 _ rfl
        have x3 := (U6b.out.ce 1 rfl).2.1 3 _ rfl
        have x4 := (U6b.out.ce 1 rfl).2.1 4 _ rfl
        have x5 := (U6b.out.ce 1 rfl).2.1 5 _ rfl
        have x6 := (U6b.out.ce 1 rfl).2.1 6 _ rfl
        go_wp2_with fail
        clear x0 x1 x2 x3 x4 x5 x6
        have SE := se_made (w := w_) [en] (T := 79) rfl
        have U7 : Hid (HS [] W (w_.alloc (.cells #[.int .i64 en.k, .int .i64 en.s, .int .i64 en.a, .int .i64 en.p, .int .i64 en.w, .int .u64 en.y.a, .int .u64 en.y.b] 79)) (thC w_.heap.size [.int .i64 en.k, .int .i64 en.s, .int .i64 en.a, .int .i64 en.p, .int .i64 en.w, .int .u64 en.y.a, .int .u64 en.y.b] :: [thB Q 330 (pc r), thC X [.int .i64 en.k, .int .i64 en.s, .int .i64 en.a, .int .i64 en.p, .int .i64 en.w, .int .u64 en.y.a, .int .u64 en.y.b], thH b c m nn (tpH q e), thB P 330 (pc q)])) := hid (U6b.out.cells (T := 79) [.int .i64 en.k, .int .i64 en.s, .int .i64 en.a, .int .i64 en.p, .int .i64 en.w, .int .u64 en.y.a, .int .u64 en.y.b])
        refine (wish_any (U7.out.nth 3 rfl : HeadAt _ b c m nn (tpH q e)) (gl [en]) _ 1 1 SE (fun ad e0 h0 => ?_) (show 0 + 1 ≤ 200 by omega) (30 + k) HPI.out (by omega)).mono ?_
        · injection e0 with e0
          subst e0
          have h1 : HeadAt w_ b c m nn (tpH q e) := U6b.out.nth 2 rfl
          have := h1.lt
          have := h1.ltc
          have := h1.ltm
          simp
          omega
        rintro x w11 ⟨q_, j_, er_, ho, rfl, hH, hC⟩
        obtain ⟨a1, a2⟩ := tp_all ho
        have b1 : er_ = er := a1.trans HER.out.symm
        have b2 : er_ = 0 → q_ = r := fun h => (a2 h).trans HR.out.symm
        rw [b1] at hH b2 ⊢
        clear ho SE a1 a2 b1
        by_cases h0 : er = 0
        · rw [if_pos h0] at hH
          have hq := b2 h0
          subst hq
          have hH2 : HeadAt w11 b c m nn (tpW q q_ e en) := hH
          have U8 : Hid (HS [] W w11 [thB Q 330 (pc q_), thC X [.int .i64 en.k, .int .i64 en.s, .int .i64 en.a, .int .i64 en.p, .int .i64 en.w, .int .u64 en.y.a, .int .u64 en.y.b], thH b c m nn (tpW q q_ e en), thB P 330 (pc q)]) := hid (HS.tail (HS.upd (A := [thC w_.heap.size [.int .i64 en.k, .int .i64 en.s, .int .i64 en.a, .int .i64 en.p, .int .i64 en.w, .int .u64 en.y.a, .int .u64 en.y.b], thB Q 330 (pc q_), thC X [.int .i64 en.k, .int .i64 en.s, .int .i64 en.a, .int .i64 en.p, .int .i64 en.w, .int .u64 en.y.a, .int .u64 en.y.b]]) (B := [thB P 330 (pc q)]) U7.out (thH b c m nn (tpW q q_ e en)) rfl hC hH2))
          have H0 := hid h0
          subst h0
          clear hH hH2 hC b2 U7 U6b
          go_simp
          go_wp2_with fail
          have OK := hid HER.out.symm
          have HV := hid (show q_.v = q.v + 1 from by rw [HR.out]; exact (ap_v1 OK.out).1)
          have hb1 : 0 ≤ q.v := HPI.out.1.1
          have hb2 : q.v ≤ 30 + k := HPI.out.1.2
          refine (send_fa (U8.out.nth 2 rfl : HeadAt _ b c m nn (tpW q q_ e en)) (show (1 : Nat) ≤ 16 by omega) HPB.out (by rw [tp_sendW OK.out HR.out]; show 0 ≤ q_.v ∧ q_.v ≤ 1000000000; rw [HV.out]; omega) (tpS q q_ en) [⟨0, 0, q_.v, false, false, en, zPl⟩] (tp_sendW OK.out HR.out) (tp_noteS OK.out HR.out)).mono ?_
          rintro x w12 ⟨A3, c3, rfl, hlc, hH, hC, hrow⟩
          obtain ⟨G, rfl, hg, hF⟩ := hrow (by simp)
          have U9 : Hid (HS [] W w12 [thB G 342 (ntf [⟨0, 0, q_.v, false, false, en, zPl⟩]), thB Q 330 (pc q_), thC X [.int .i64 en.k, .int .i64 en.s, .int .i64 en.a, .int .i64 en.p, .int .i64 en.w, .int .u64 en.y.a, .int .u64 en.y.b], thH b c m nn (tpS q q_ en), thB P 330 (pc q)]) := hid (HS.updNew (A := [thB Q 330 (pc q_), thC X [.int .i64 en.k, .int .i64 en.s, .int .i64 en.a, .int .i64 en.p, .int .i64 en.w, .int .u64 en.y.a, .int .u64 en.y.b]]) (B := [thB P 330 (pc q)]) U8.out (thH b c m nn (tpS q q_ en)) rfl hC hH hF hg)
          clear hH hC hrow hF hg U8
          have HLC := hid hlc
          clear hlc
          skip
          dsimp only [List.length_cons, List.length_nil] at HLC ⊢
          go_simp
          go_upto_region 19 with (fail)
          refine wp_region_held_drew (S := fun (w' : World) => HS [] W w' [thB G 342 (ntf [⟨0, 0, q_.v, false, false, en, zPl⟩]), thB Q 330 (pc q_), thC X [.int .i64 en.k, .int .i64 en.s, .int .i64 en.a, .int .i64 en.p, .int .i64 en.w, .int .u64 en.y.a, .int .u64 en.y.b], thH b c m nn (tpS q q_ en), thB P 330 (pc q)]) (by kernel_rfl) ?_ (fun hHeld => ?_)
          · exact U9.out.drew
          refine tkq 0 hHeld ?_
          refine tkq 1 hHeld ?_
          refine tkq 2 hHeld ?_
          refine tkq 3 hHeld ?_
          refine tkq 4 hHeld ?_
          refine tkq 5 hHeld ?_
          refine tkq 6 hHeld ?_
          refine tkq 7 hHeld ?_ (hy := by intro w hSw; (try dsimp only at hSw); have f3 : World.cell? w ⟨G, 3, none⟩ = some (.bool false) := (hSw.fb 0 rfl).ntk 0 _ rfl (by omega) 3 (by omega); go_simp; (try with_reducible rfl))
          refine tkq 8 hHeld ?_
          refine tkq 9 hHeld ?_
          refine tkq 10 hHeld ?_
          refine tkq 11 hHeld ?_
          refine tkq 12 hHeld ?_
          refine tkq 13 hHeld ?_ (hy := by intro w hSw; (try dsimp only at hSw); have f5 : World.cell? w ⟨G, 5, none⟩ = some (.int .i64 en.k) := (hSw.fb 0 rfl).ntk 0 _ rfl (by omega) 5 (by omega); have f6 : World.cell? w ⟨G, 6, none⟩ = some (.int .i64 en.s) := (hSw.fb 0 rfl).ntk 0 _ rfl (by omega) 6 (by omega); have f7 : World.cell? w ⟨G, 7, none⟩ = some (.int .i64 en.a) := (hSw.fb 0 rfl).ntk 0 _ rfl (by omega) 7 (by omega); have f8 : World.cell? w ⟨G, 8, none⟩ = some (.int .i64 en.p) := (hSw.fb 0 rfl).ntk 0 _ rfl (by omega) 8 (by omega); have f9 : World.cell? w ⟨G, 9, none⟩ = some (.int .i64 en.w) := (hSw.fb 0 rfl).ntk 0 _ rfl (by omega) 9 (by omega); have f10 : World.cell? w ⟨G, 10, none⟩ = some (.int .u64 en.y.a) := (hSw.fb 0 rfl).ntk 0 _ rfl (by omega) 10 (by omega); have f11 : World.cell? w ⟨G, 11, none⟩ = some (.int .u64 en.y.b) := (hSw.fb 0 rfl).ntk 0 _ rfl (by omega) 11 (by omega); go_simp; (try with_reducible rfl))
          refine tkq 14 hHeld ?_ (hy := by intro w hSw; (try dsimp only at hSw); have x0 := (hSw.ce 2 rfl).2.1 0 _ rfl; have x1 := (hSw.ce 2 rfl).2.1 1 _ rfl; have x2 := (hSw.ce 2 rfl).2.1 2 _ rfl; have x3 := (hSw.ce 2 rfl).2.1 3 _ rfl; have x4 := (hSw.ce 2 rfl).2.1 4 _ rfl; have x5 := (hSw.ce 2 rfl).2.1 5 _ rfl; have x6 := (hSw.ce 2 rfl).2.1 6 _ rfl; go_simp; (try with_reducible rfl))
          refine tk 15 (v := .bool false) rfl (by kernel_rfl) (by kernel_rfl) (by kernel_rfl) (fun _ _ _ h => h) rfl (fun w hSw => ex_neqE _ _ rfl en rfl rfl w) hHeld ?_; (try simp only [Act.put, List.setIfInBounds_toArray, List.set_cons_zero, List.set_cons_succ])
          refine tkq 16 hHeld ?_
          refine tkq 17 hHeld ?_
          refine tkq 18 hHeld ?_
          refine tkq 19 hHeld ?_
          refine tkq 20 hHeld ?_
          refine tkq 21 hHeld ?_ (hy := by intro w hSw; (try dsimp only at hSw); have f2 : World.cell? w ⟨G, 2, none⟩ = some (.int .i64 q_.v) := (hSw.fb 0 rfl).ntk 0 _ rfl (by omega) 2 (by omega); go_simp; (try with_reducible rfl))
          refine tkq 22 hHeld ?_
          refine tkq 23 hHeld ?_ (hy := by intro w hSw; (try dsimp only at hSw); have y0 : World.cell? w ⟨Q, 0, none⟩ = some (.int .i64 q_.v) := (hSw.fb 1 rfl).2.1 0 (by omega); go_simp; (try with_reducible rfl))
          refine tkq 24 hHeld ?_
          refine tkq 25 hHeld ?_
          refine tkq 26 hHeld ?_
          refine tkq 27 hHeld ?_
          refine tk 29 (v := .agg (FA 330 (pc q_))) rfl (by kernel_rfl) (by kernel_rfl) (by kernel_rfl) (fun _ _ _ h => h) rfl (fun w hSw => ex_load rfl rfl (ldF hSw (k := 1) rfl)) hHeld ?_; (try simp only [Act.put, List.setIfInBounds_toArray, List.set_cons_zero, List.set_cons_succ])
          refine only 28 rfl (by kernel_rfl) rfl (fun K hK => ?_)
          go_simp
          refine (pool_fa (hHeld.nth 3 rfl : HeadAt _ b c m nn (tpS q q_ en))).mono ?_
          rintro e' w' ⟨rfl, hb⟩
          try go_wp2_with fail
          refine hK.out _ _ (hHeld.below hb) (fun h2 => ?_)
          clear hK
          try simp only [Act.put, List.setIfInBounds_toArray, List.set_cons_zero, List.set_cons_succ]
          refine tk 30 (v := .bool false) rfl (by kernel_rfl) (by kernel_rfl) (by kernel_rfl) (fun _ _ _ h => h) rfl (fun w hSw => ex_neqF _ _ rfl q_ rfl rfl w) h2 ?_; (try simp only [Act.put, List.setIfInBounds_toArray, List.set_cons_zero, List.set_cons_succ])
          refine tkq 31 h2 ?_
          have V9 := hid h2
          clear h2 hHeld U9
          refine wpAnyH_done (by kernel_rfl) ?_ _
          skip
          go_upto_region 22 with (first | ((with_reducible refine wl_id ?_); refine wl_ow rfl (ov_val (ex_load rfl rfl (ldF V9.out (k := 1) rfl)) ?_)) | ((with_reducible refine wl_id ?_); refine wl_ow rfl (ow_store (A := [thB G 342 (ntf [⟨0, 0, q_.v, false, false, en, zPl⟩]), thB Q 330 (pc q_), thC X [.int .i64 en.k, .int .i64 en.s, .int .i64 en.a, .int .i64 en.p, .int .i64 en.w, .int .u64 en.y.a, .int .u64 en.y.b], thH b c m nn (tpS q q_ en)]) 0 330 (pc q_) (pc q_) rfl rfl rfl V9.out (by omega) (fun j hj => patch_all _ _ _ j hj) info_pl2 (pc_one _) ?_); intro w_ hZ; have V10 := hid hZ; clear hZ))
          have cp1 : w_.cell? ⟨P, 0, none⟩ = some (.int .i64 q_.v) := (V10.out.fb 4 rfl).2.1 0 (by omega)
          apply wp_region_lit
          refine wl_val (v := ?_) rfl ?_ ?_; rotate_left; (focus ( go_simp; (try with_reducible rfl))); (try simp only [Act.put, List.setIfInBounds_toArray, List.set_cons_zero, List.set_cons_succ])
          refine wl_val (v := ?_) rfl ?_ ?_; rotate_left; (focus ( go_simp; (try with_reducible rfl))); (try simp only [Act.put, List.setIfInBounds_toArray, List.set_cons_zero, List.set_cons_succ])
          refine wl_val (v := ?_) rfl ?_ ?_; rotate_left; (focus ( go_simp; (try with_reducible rfl))); (try simp only [Act.put, List.setIfInBounds_toArray, List.set_cons_zero, List.set_cons_succ])
          refine wl_val rfl (ex_build2 rfl rfl rfl (build_nt24F q_.v _)) ?_
          try simp only [Act.put, List.setIfInBounds_toArray, List.set_cons_zero, List.set_cons_succ]
          go_wp2_with fail
          clear cp1 V9
          refine (heard_fa (V10.out.nth 3 rfl : HeadAt _ b c m nn (tpS q q_ en)) ⟨0, 0, q_.v, false, true, zEn, zPl⟩ (show (1 : Nat) ≤ 16 by omega) (by omega) (tpH q_ en) (tp_heard hb1 HV.out)).mono ?_
          rintro x w13 ⟨rfl, hH, hC⟩
          have V11 : Hid (HS [] W w13 [thH b c m (nn + 1) (tpH q_ en), thB P 330 (pc q_)]) := hid (HS.upd (A := [thB G 342 (ntf [⟨0, 0, q_.v, false, false, en, zPl⟩]), thB Q 330 (pc q_), thC X [.int .i64 en.k, .int .i64 en.s, .int .i64 en.a, .int .i64 en.p, .int .i64 en.w, .int .u64 en.y.a, .int .u64 en.y.b]]) (B := [thB P 330 (pc q_)]) V10.out (thH b c m (nn + 1) (tpH q_ en)) rfl hC hH).tail.tail.tail
          clear hH hC V10
          go_simp
          go_wp2_with fail
          go_roundg (30 - (k + 1))
          case rel => exact ⟨k + 1, nn + 1, q_, en, by omega, by omega, by omega, by omega, by go_num, by rw [HR.out]; exact (apR_inv HPI.out OK.out).mono (by omega), V11.out⟩
          case measure => omega
        · rw [if_neg h0] at hH
          have hH2 : HeadAt w11 b c m nn (tpH q e) := hH
          have U8 : Hid (HS [] W w11 [thB Q 330 (pc r), thC X [.int .i64 en.k, .int .i64 en.s, .int .i64 en.a, .int .i64 en.p, .int .i64 en.w, .int .u64 en.y.a, .int .u64 en.y.b], thH b c m nn (tpH q e), thB P 330 (pc q)]) := hid (HS.tail (HS.upd (A := [thC w_.heap.size [.int .i64 en.k, .int .i64 en.s, .int .i64 en.a, .int .i64 en.p, .int .i64 en.w, .int .u64 en.y.a, .int .u64 en.y.b], thB Q 330 (pc r), thC X [.int .i64 en.k, .int .i64 en.s, .int .i64 en.a, .int .i64 en.p, .int .i64 en.w, .int .u64 en.y.a, .int .u64 en.y.b]]) (B := [thB P 330 (pc q)]) U7.out (thH b c m nn (tpH q e)) rfl hC hH2))
          have hx0 : (er != er) = false := by simp
          clear hH hH2 hC b2 U7 U6b
          go_simp
          go_wp2_with fail
          refine (send_fa (U8.out.nth 2 rfl : HeadAt _ b c m nn (tpH q e)) (show (1 : Nat) ≤ 16 by omega) HPB.out (by rw [tp_send]; exact ⟨HPI.out.1.1, Int.le_trans HPI.out.1.2 (by omega)⟩) (tpH q e) [] (tp_send q e) (tp_note q e)).mono ?_
          rintro x w12 ⟨A3, c3, rfl, hlc, hH, hC, _⟩
          have U9 : Hid (HS [] W w12 [thB Q 330 (pc r), thC X [.int .i64 en.k, .int .i64 en.s, .int .i64 en.a, .int .i64 en.p, .int .i64 en.w, .int .u64 en.y.a, .int .u64 en.y.b], thH b c m nn (tpH q e), thB P 330 (pc q)]) := hid (HS.upd (A := [thB Q 330 (pc r), thC X [.int .i64 en.k, .int .i64 en.s, .int .i64 en.a, .int .i64 en.p, .int .i64 en.w, .int .u64 en.y.a, .int .u64 en.y.b]]) (B := [thB P 330 (pc q)]) U8.out (thH b c m nn (tpH q e)) rfl hC hH)
          clear hH hC hlc U8
          have hz : (er != 0) = true := by simpa using h0
          dsimp only [List.length_nil]
          go_simp
          go_upto_region 17 with (fail)
          refine wp_region_held_drew (S := fun (w' : World) => HS [] W w' [thB Q 330 (pc r), thC X [.int .i64 en.k, .int .i64 en.s, .int .i64 en.a, .int .i64 en.p, .int .i64 en.w, .int .u64 en.y.a, .int .u64 en.y.b], thH b c m nn (tpH q e), thB P 330 (pc q)]) (by kernel_rfl) ?_ (fun hHeld => ?_)
          · exact U9.out.drew
          refine tkq 0 hHeld ?_
          refine tkq 1 hHeld ?_
          refine tkq 2 hHeld ?_
          refine tkq 3 hHeld ?_
          refine tkq 4 hHeld ?_
          refine tk 6 (v := .agg (FA 330 (pc q))) rfl (by kernel_rfl) (by kernel_rfl) (by kernel_rfl) (fun _ _ _ h => h) rfl (fun w hSw => ex_load rfl rfl (ldF hSw (k := 3) rfl)) hHeld ?_; (try simp only [Act.put, List.setIfInBounds_toArray, List.set_cons_zero, List.set_cons_succ])
          refine only 5 rfl (by kernel_rfl) rfl (fun K hK => ?_)
          go_simp
          refine (pool_fa (hHeld.nth 2 rfl : HeadAt _ b c m nn (tpH q e))).mono ?_
          rintro e' w' ⟨rfl, hb⟩
          try go_wp2_with fail
          refine hK.out _ _ (hHeld.below hb) (fun h2 => ?_)
          clear hK
          try simp only [Act.put, List.setIfInBounds_toArray, List.set_cons_zero, List.set_cons_succ]
          refine tk 7 (v := .bool false) rfl (by kernel_rfl) (by kernel_rfl) (by kernel_rfl) (fun _ _ _ h => h) rfl (fun w hSw => ex_neqF _ _ rfl q rfl rfl w) h2 ?_; (try simp only [Act.put, List.setIfInBounds_toArray, List.set_cons_zero, List.set_cons_succ])
          refine tkq 8 h2 ?_
          have V9 := hid h2
          clear h2 hHeld U9
          refine wpAnyH_done (by kernel_rfl) ?_ _
          go_wp2_with fail
          go_roundg (30 - (k + 1))
          case rel => exact ⟨k + 1, nn, q, e, by omega, by omega, by omega, by omega, by go_num, HPI.out.mono (by omega), V9.out.tail.tail⟩
          case measure => omega

set_option maxRecDepth 100000 in
theorem lifted (os : Os) (started : os.Started) (H : Type) (enc : TypeId × Value → H) :
    ReturnsInHanded {} Tryz.checked os 8 .any (Rows.topHeadSpec.pre6 enc Tryz.prog Tryz.f8 [] false) (Rows.topHeadSpec.post enc Tryz.prog Tryz.f8 false true false false) :=
  law_step (s := Rows.topHeadSpec) started (by kernel_rfl) Tryz.func8
    (ChangeSpec.witness6 (s := Rows.topHeadSpec) (enc := enc) (C := Tryz.checked) false ⟨#[], #[.slice none 0 0, .slice none 0 0], []⟩ 8 (by kernel_rfl) (by kernel_rfl) (by kernel_rfl) (by kernel_rfl))
    rfl (by rw [Tryz.params8]; decide +kernel) rfl Tryz.underlying4
    (fun ds h => by
      rw [Tryz.params8] at h
      match ds, h with
      | [_, _], _ => rfl)
    (fun W base args ds ps hval hA hsz => by
      rw [Tryz.params8] at hA hval hsz
      obtain ⟨v0, vs0, d0, ds0, p0, q0, hargs, rfl, rfl, h0, r0⟩ := trodAll_cons hA
      obtain ⟨v1, vs1, d1, ds1, p1, q1, rfl, rfl, rfl, h1, r1⟩ := trodAll_cons r0
      obtain ⟨rfl, rfl, rfl⟩ := trodAll_nil r1
      obtain rfl : args = #[v0, v1] := by cases args; simp_all
      obtain ⟨A0, n0, c0, g0, rfl, hn0, hc0, hs0, hw0, hl0, hd0⟩ := open_row Tryz.underlying22 Tryz.underlying3 (by kernel_rfl) (hval 0 22 v0 rfl rfl) h0
      have re0 : c0 * 8 ≤ 140737488351232 := by
        rcases hd0 with ⟨_, h0⟩ | ⟨xs, ys, h1, h2⟩
        · omega
        · have := sized_slice hsz (j := 0) (t := 22) (e := 3) rfl (by rw [h1]; rfl) Tryz.underlying22
          rw [h2, show Tryz.prog.bytesOf 3 = 8 from by kernel_rfl] at this
          simpa [reachBytes] using this
      obtain ⟨A1, n1, c1, g1, rfl, hn1, hc1, hs1, hw1, hl1, hd1⟩ := open_row Tryz.underlying22 Tryz.underlying3 (by kernel_rfl) (hval 1 22 v1 rfl rfl) h1
      have re1 : c1 * 8 ≤ 140737488351232 := by
        rcases hd1 with ⟨_, h0⟩ | ⟨xs, ys, h1, h2⟩
        · omega
        · have := sized_slice hsz (j := 1) (t := 22) (e := 3) rfl (by rw [h1]; rfl) Tryz.underlying22
          rw [h2, show Tryz.prog.bytesOf 3 = 8 from by kernel_rfl] at this
          simpa [reachBytes] using this
      exact walk W A0 n0 c0 g0 hn0 hc0 hs0 (fun j => bounds_i64 (hw0 j)) hl0 re0 A1 n1 c1 g1 hn1 hc1 hs1 (fun j => bounds_i64 (hw1 j)) hl1 re1)

theorem proved : Rows.TopHeadSaid :=
  OpenClaim.holds_of_wide 8 Tryz.f8 rfl rfl rfl rfl rfl rfl rfl ⟨rfl, rfl, rfl, rfl, rfl⟩ rfl rfl rfl rfl rfl (by kernel_rfl) Tryz.func8 (by kernel_rfl)
    (of_decide_eq_true (by kernel_rfl)) (by unfold Func.isWrapper; first | (rw [if_pos (by decide +kernel)]; kernel_rfl) | (rw [if_neg (by decide +kernel)]; exact ⟨rfl, rfl⟩))
    (fun os started H enc _ => lifted os started H enc)
end Go.Proofs.YtomlpkojnipkhaaGreat.topHead

