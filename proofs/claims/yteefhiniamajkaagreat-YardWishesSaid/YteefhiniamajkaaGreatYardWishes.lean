/- roundhouselaw12.YardWishes answers true for every row, any two numbers; no condition. -/
import Derived.Test.YteefhiniamajkaaGreatRyD
import Derived.BigQuiet
import Derived.Deep.RegionHeld3
import Derived.Deep.Cut
import Derived.Deep.CutRange
import Derived.IntWalk
namespace Go.Proofs.YteefhiniamajkaaGreat.yardWishes
set_option linter.unusedVariables false
set_option linter.unusedSimpArgs false
open Go.RowKit Go.ChangeShapes Go.WideShapes Go.ChangeAt
attribute [local irreducible] FA FL
set_option maxRecDepth 100000 in
set_option maxHeartbeats 64000000 in
theorem walk (W : World) (A1 : Option Addr) (n1 c1 : Nat) (g1 : Nat → Int) (hn1 : n1 ≤ c1) (hc1 : c1 ≤ maxLen) (hr1 : Is W A1 n1 g1) (hg1 : IsI g1) (hl1 : ∀ ad, A1 = some ad → 0 < n1 → ad.block < W.heap.size) (re1 : c1 * 8 ≤ 140737488351232) (a0 : Int) (r_a0 : -9223372036854775808 ≤ a0 ∧ a0 ≤ 9223372036854775807) (a1 : Int) (r_a1 : -9223372036854775808 ≤ a1 ∧ a1 ≤ 9223372036854775807) :
    Calls Tryz.prog 3 #[.slice A1 n1 c1, .int .i64 a0, .int .i64 a1] W fun e w' => e = .returned (.bool true) ∧ Below W.heap.size W w' := by
  unfold maxLen at hc1
  have hnm : (n1 : Int) ≤ 9223372036854775807 := by have := hn1; omega
  have HL := hid hl1
  clear hl1 re1
  obtain ⟨p, hp⟩ : ∃ p, p = mkP g1 (min n1 30) := ⟨_, rfl⟩
  have GP : good p ∧ p.v ≤ 30 := by rw [hp]; exact good_mk g1 _ (by omega)
  have MK := hid (fun (w : World) (h : Is w A1 n1 g1) (hl : ∀ ad, A1 = some ad → 0 < n1 → ad.block < w.heap.size) => (show Calls Tryz.prog 5 #[.slice A1 n1 c1, .int .i64 30] w fun x w' => x = .returned (.agg (FA 330 (pc p))) ∧ Below w.heap.size w w' from by rw [hp]; exact make_fa w A1 n1 c1 g1 h hl hnm 30 (by omega)))
  clear hp
  have hv0 := GP.1.v
  have hv30 := GP.2
  obtain ⟨x0, hx0⟩ : ∃ x : Nat, (x : Int) = wi a1 4 := ⟨(wi a1 4).toNat, by have := wi_bd a1 4 (by omega); omega⟩
  have bx0 := wi_bd a1 4 (by omega)
  rw [← hx0] at bx0
  have Wx0 := hid (fun w => re_i64 (within_any a1 4 w (by omega) (by omega)) hx0.symm)
  clear hx0
  obtain ⟨bx01, bx02⟩ := bx0
  obtain ⟨u, hu⟩ : ∃ u : Nat, u = 1 + x0 := ⟨_, rfl⟩
  have hu1 : 1 ≤ u := by omega
  have hu2 : u ≤ 4 := by omega
  have HUX := hid (show (1 : Int) + x0 = u from by omega)
  clear hu
  have S0 : Hid (HS [] W W []) := hid HS.start
  go_enter Tryz.func3, Tryz.ntmps3
  go_wp2_with fail
  refine (yknown_any _).mono ?_
  rintro x w1 ⟨rfl, hB⟩
  have R1 := hid (hr1.below hB (Nat.le_refl _))
  have B1 := hid hB
  have S1 := hid (S0.out.below hB)
  clear hr1 hB S0
  go_wp2_with fail
  refine (MK.out _ R1.out (fun ad e h => Nat.lt_of_lt_of_le (HL.out ad e h) B1.out.size)).mono ?_
  rintro x w2 ⟨rfl, hb⟩
  have S2 := hid (S1.out.below hb)
  clear hb S1 MK
  go_simp
  go_upto_region 4 with (first | ((with_reducible refine wl_id ?_); refine wl_ow rfl (ow_alloc rfl (zpl_fa _) (by omega) S2.out ?_); intro P w_ hZ _; have SA := hid hZ; clear hZ) | ((with_reducible refine wl_id ?_); refine wl_ow rfl (ow_store (A := []) 0 330 (pc p) (pc p) rfl rfl rfl SA.out (by omega) (fun j hj => patch_all _ _ _ j hj) info_pl (pc_one _) ?_); intro w_ hZ; have S3 := hid hZ; clear hZ))
  clear S2 R1 B1
  go_wp2_with fail
  refine (Wx0.out _).mono ?_
  rintro x w_ ⟨rfl, rfl⟩
  go_simp
  go_upto_region 5 with (fail)
  rw [HUX.out]
  go_wp2_with ((with_reducible refine wl_id ?_); refine wl_ow rfl (ow_load 0 rfl 0 330 (pc p) rfl rfl S3.out (by omega) (fun j hj => by rw [Nat.zero_add]) Tryz.underlying33 rfl info_pl ?_))
  refine (ya_new S3.out p u ⟨hu1, by omega⟩).mono ?_
  rintro x w4 ⟨D, rfl, hY⟩
  have Y0 := hid hY
  clear hY S3
  go_simp
  have LD := hid ((Y0.out.memR (t := thB P 330 (pc p)) (by simp)).load 0 330 (pc p) (by omega) (fun j hj => by rw [Nat.zero_add]) Tryz.underlying33 rfl info_pl)
  go_wp2_with ((with_reducible refine wl_id ?_); refine wl_ow rfl (ov_val (ex_load rfl rfl LD.out) ?_))
  obtain ⟨V, ns, bf, hn, h1, h2, h3⟩ := Y0.out
  refine (ra_new h3 p u ⟨hu1, by omega⟩).mono ?_
  rintro x w5 ⟨D9, rfl, hA⟩
  have T0 : Hid (TW [] W w5 D (newY p u) 16 D9 (newY p u) [thB P 330 (pc p)]) := hid (tw_start h1 h2 hA)
  clear h1 h2 h3 hA Y0 LD
  go_simp
  go_wp2_with fail
  refine (entry_ex _ _).mono ?_
  rintro x w6 ⟨e0, rfl, hb⟩
  have T1 := hid (T0.out.below hb)
  clear hb T0
  go_simp
  go_wp2_with fail
  refine (entry_ex _ _).mono ?_
  rintro x w7 ⟨e1, rfl, hb⟩
  have T2 := hid (T1.out.below hb)
  clear hb T1
  go_simp
  go_wp2_with fail
  refine (entry_ex _ _).mono ?_
  rintro x w8 ⟨e2, rfl, hb⟩
  have T3 := hid (T2.out.below hb)
  clear hb T2
  go_simp
  go_upto_region 10 with ((with_reducible refine wl_id ?_); refine wl_ow rfl (ow_bs3 rfl rfl rfl rfl T3.out (fun G w9 hZ => ?_)); have T4 := hid hZ; clear hZ T3)
  have f0 : Fit (newY p u) 30 := Fit.new GP.1 ⟨hu1, by omega⟩ hv30
  have P0 : Pinv (newY p u).h.ah 60 := Pinv.mono (show Pinv p (30 + p.v) from GP.1.1) (by omega)
  have q0 : QOK (newY p u).h := qok_new p u
  have l0 : (newY p u).h.q.length = 0 := rfl
  have n0 : (newY p u).ns.length = 0 := rfl
  have ph : (newY p u).h.pl = p := rfl
  have pp : Pinv p 60 := GP.1.1.mono (by omega)
  have PP := hid pp
  generalize newY p u = y0 at *
  have FF := hid f0
  have PA := hid P0
  have QQ := hid q0
  have LL := hid l0
  have NN := hid n0
  have PH := hid ph
  clear f0 P0 q0 l0 n0 ph pp GP
  go_wp2_with fail
  refine (tw_wish T4.out (g3 e0 e1 e2) G 0 3 3 (se3 (T4.out.memR (t := thB G 21 (f3 e0 e1 e2)) (by simp))) (f := f3 e0 e1 e2) (n := 21) (by simp) (by have := LL.out; omega) PA.out (by omega)).mono ?_
  rintro x w10 ⟨a3, j3, er, ho, rfl, hT⟩
  have T5 := hid hT
  have HO := hid ho
  clear hT ho T4
  go_simp
  go_wp2_with fail
  refine (tw_rwish T5.out (g3 e0 e1 e2) G 0 3 3 (se3 (T5.out.memR (t := thB G 21 (f3 e0 e1 e2)) (by simp))) (by have := LL.out; omega) (by rw [PH.out]; exact PP.out) (K := 60) (by omega) QQ.out HO.out).mono ?_
  rintro x w11 ⟨rfl, hT⟩
  have T6 := hid hT
  clear hT T5
  obtain ⟨F1, Q1, E1, L1, P1⟩ := wish_step FF.out QQ.out HO.out PA.out
  obtain ⟨y1, hy1⟩ : ∃ y1 : Yd, y1 = ⟨if er = 0 then { y0.h with ah := a3, q := y0.h.q ++ (List.range 3).map (g3 e0 e1 e2) } else y0.h, y0.uf, y0.ns⟩ := ⟨_, rfl⟩
  have n1 : y1.ns.length = 0 := by rw [hy1]; exact NN.out
  have FF1 : Hid (Fit y1 30) := hid (by rw [hy1]; exact F1)
  have QQ1 : Hid (QOK y1.h) := hid (by rw [hy1]; exact Q1)
  have PH1 : Hid (y1.h.pl = p) := hid (by rw [hy1]; exact E1.trans PH.out)
  have LL1 : Hid (y1.h.q.length ≤ 3) := hid (by rw [hy1]; have := LL.out; exact Nat.le_trans L1 (by omega))
  have PA1 : Hid (Pinv y1.h.ah 63) := hid (by rw [hy1]; exact P1.mono (by omega))
  have NN1 := hid n1
  rw [← hy1] at T6
  clear n1 hy1 F1 Q1 E1 L1 P1 FF PA QQ LL NN PH HO
  go_simp
  go_upto_region 11 with (fail)
  refine wp_region_held_drew (S := fun (w' : World) => True) (by kernel_rfl) ?_ (fun hHeld => ?_)
  · exact trivial
  have F0 := T6.out.below (w' := w11.drew) ⟨rfl, rfl, rfl, Nat.le_refl _, fun _ _ => rfl⟩
  refine tkq 0 hHeld ?_
  refine tkq 1 hHeld ?_
  refine tk 2 (v := (.slice (some ⟨G, 7, none⟩) 2 2)) rfl (by kernel_rfl) (by kernel_rfl) (by kernel_rfl) (fun _ _ _ h => h) rfl (fun w hSw => ex_slice_l9 rfl rfl rfl elem_e9 (cut31 G w)) hHeld ?_; (try simp only [Act.put, List.setIfInBounds_toArray, List.set_cons_zero, List.set_cons_succ])
  refine tkq 4 hHeld ?_
  refine tkq 5 hHeld ?_
  refine tk 6 (v := (.slice (some ⟨G, 7, none⟩) 2 2)) rfl (by kernel_rfl) (by kernel_rfl) (by kernel_rfl) (fun _ _ _ h => h) rfl (fun w hSw => ex_slice_l9 rfl rfl rfl elem_e9 (cut31 G w)) hHeld ?_; (try simp only [Act.put, List.setIfInBounds_toArray, List.set_cons_zero, List.set_cons_succ])
  refine only 3 rfl (by kernel_rfl) rfl (fun K hK => ?_)
  go_simp
  refine (tw_wish F0 (fun i => g3 e0 e1 e2 (1 + i)) G 7 2 2 (se31 (F0.memR (t := thB G 21 (f3 e0 e1 e2)) (by simp))) (f := f3 e0 e1 e2) (n := 21) (by simp) (by have := LL1.out; omega) PA1.out (by omega)).mono ?_
  rintro x w12 ⟨a4, j4, er2, ho, rfl, hT⟩
  try go_wp2_with fail
  refine hK.out _ _ trivial (fun _ => ?_)
  clear hK
  try simp only [Act.put, List.setIfInBounds_toArray, List.set_cons_zero, List.set_cons_succ]
  refine only 7 rfl (by kernel_rfl) rfl (fun K hK => ?_)
  go_simp
  refine (tw_rwish hT (fun i => g3 e0 e1 e2 (1 + i)) G 7 2 2 (se31 (hT.memR (t := thB G 21 (f3 e0 e1 e2)) (by simp))) (by have := LL1.out; omega) (by rw [PH1.out]; exact PP.out) (K := 60) (by omega) QQ1.out ho).mono ?_
  rintro x w13 ⟨rfl, hT2⟩
  try go_wp2_with fail
  refine hK.out _ _ trivial (fun h9 => ?_)
  clear hK
  try simp only [Act.put, List.setIfInBounds_toArray, List.set_cons_zero, List.set_cons_succ]
  refine tkq 8 h9 ?_
  refine tkq 9 h9 ?_
  refine wpAnyH_done (by kernel_rfl) ?_ _
  obtain ⟨F1, Q1, E1, L1, P1⟩ := wish_step FF1.out QQ1.out ho PA1.out
  obtain ⟨y2, hy2⟩ : ∃ y2 : Yd, y2 = ⟨if er2 = 0 then { y1.h with ah := a4, q := y1.h.q ++ (List.range 2).map (fun i => g3 e0 e1 e2 (1 + i)) } else y1.h, y1.uf, y1.ns⟩ := ⟨_, rfl⟩
  have FF2 : Hid (Fit y2 30) := hid (by rw [hy2]; exact F1)
  have QQ2 : Hid (QOK y2.h) := hid (by rw [hy2]; exact Q1)
  have LL2 : Hid (y2.h.q.length ≤ 5) := hid (by rw [hy2]; have := LL1.out; exact Nat.le_trans L1 (by omega))
  have NN2 : Hid (y2.ns.length = 0) := hid (by rw [hy2]; exact NN1.out)
  rw [← hy2] at hT2
  have T7 := hid hT2
  clear hy2 F1 Q1 E1 L1 P1 hT hT2 ho F0 hHeld h9 T6 FF1 QQ1 PH1 LL1 PA1 NN1 PP
  go_wp2_with fail
  refine (tw_settle (n := 6) (B := 0) T7.out FF2.out (by omega) (by omega) (by have := NN2.out; omega) (by omega) (by omega)).mono ?_
  rintro x w14 ⟨rfl, hT⟩
  obtain ⟨yF, hyF⟩ : ∃ yF, yF = setl 6 y2 := ⟨_, rfl⟩
  rw [← hyF] at hT
  have HYF := hid hyF
  have T8 := hid hT
  clear hT hyF T7
  go_simp
  go_wp2_with fail
  go_loopw [18] (fun i wr => ∃ k : Nat, k ≤ 6 ∧ i = .int .i64 (k : Int) ∧ TW [] W wr D yF (16 + 101 * 6) D9 (setl k y2) [thB G 21 (f3 e0 e1 e2), thB P 330 (pc p)] ∧ Fit (setl k y2) (30 + k) ∧ (setl k y2).ns.length ≤ 16 * k ∧ QOK (setl k y2).h ∧ (setl k y2).h.q.length ≤ 5) (fun i _ => 6 - (intOf i).toNat)
  case atStart => exact ⟨0, Nat.zero_le _, rfl, T8.out, FF2.out.mono (by omega), by show y2.ns.length ≤ _; have := NN2.out; omega, QQ2.out, LL2.out⟩
  case round =>
    clear T8 FF2 QQ2 LL2 NN2
    obtain ⟨k, hk, rfl, hT, hF, hns, hq, hlq⟩ := hrel
    have T1 := hid hT
    have F1 := hid hF
    have N1 := hid hns
    have Q1 := hid hq
    have L1 := hid hlq
    clear hT hF hns hq hlq
    by_cases hlt : (k : Int) < 6
    · have hkn : k < 6 := by omega
      go_wp2_with fail
      refine (tw_rtick T1.out F1.out (by omega) Q1.out (by have := L1.out; omega) (by have := N1.out; omega)).mono ?_
      rintro x w15 ⟨rfl, hT⟩
      obtain ⟨y1, hy1⟩ : ∃ y1, y1 = setl k y2 := ⟨_, rfl⟩
      have HS_ := hid (show setl (k + 1) y2 = runD 100 (tickY y1) from by rw [hy1]; rfl)
      rw [← hy1] at hT F1 N1 Q1 L1 ⊢
      have T2 := hid hT
      have F2 := hid F1.out.tick
      have N2 := hid (show (tickY y1).ns.length ≤ 16 * (k + 1) from by have h1 := tickY_len y1; have h2 := F1.out.2.1.2; have h3 := N1.out; omega)
      have Q2 := hid (show QOK (tickY y1).h from qok_send Q1.out)
      have L2 := hid (show (tickY y1).h.q.length ≤ 5 from Nat.le_trans (sendH_q y1.h).1 L1.out)
      clear hT T1 F1 N1 Q1 L1 hy1
      go_simp
      go_wp2_with fail
      go_loopw [19] (fun i wx => ∃ (j : Nat) (y' : Yd), j ≤ 100 ∧ i = .int .i64 (j : Int) ∧ runD 100 (tickY y1) = runD (100 - j) y' ∧ TW [] W wx D yF (16 + 101 * 6) D9 y' [thB G 21 (f3 e0 e1 e2), thB P 330 (pc p)] ∧ Fit y' (30 + k + 1) ∧ y'.ns.length ≤ 16 * (k + 1) ∧ QOK y'.h ∧ y'.h.q.length ≤ 5) (fun i _ => 100 - (intOf i).toNat)
      case atStart => exact ⟨0, tickY y1, by omega, rfl, rfl, T2.out, F2.out, N2.out, Q2.out, L2.out⟩
      case round =>
        clear T2 F2 N2 Q2 L2
        obtain ⟨j, y', hj, rfl, hr, hT, hF, hns, hq, hlq⟩ := hrel
        have T3 := hid hT
        have F3 := hid hF
        have N3 := hid hns
        have Q3 := hid hq
        have L3 := hid hlq
        have RR := hid hr
        clear hT hF hns hr hq hlq
        by_cases hjl : (j : Int) < 100
        · by_cases h0 : y'.ns.length = 0
          · have DL := hid (tw_rdelN T3.out h0)
            have E9 := hid (show runD (100 - j) y' = y' from runD_nil _ (List.length_eq_zero_iff.1 h0))
            clear h0 T3
            go_wp2_with fail
            refine DL.out.mono ?_
            rintro x w16 ⟨rfl, hT⟩
            have T4 := hid hT
            clear hT DL
            go_simp
            go_wp2_with fail
            go_roundw
            case rel => exact ⟨k + 1, by omega, by go_num, by rw [HS_.out, RR.out, E9.out]; exact T4.out, by rw [HS_.out, RR.out, E9.out]; exact F3.out.mono (by omega), by rw [HS_.out, RR.out, E9.out]; exact N3.out, by rw [HS_.out, RR.out, E9.out]; exact Q3.out, by rw [HS_.out, RR.out, E9.out]; exact L3.out⟩
            case measure => simp [intOf]; omega
          · have h1 : 0 < y'.ns.length := by omega
            have DL := hid (tw_rdel T3.out F3.out (by omega) (by have := N3.out; omega) h1)
            have FD := hid (F3.out.del 0 false)
            have E9 := hid (show runD (100 - j) y' = runD (100 - (j + 1)) (delY y' 0 false) from by rw [show 100 - j = (100 - (j + 1)) + 1 by omega]; exact runD_cons _ h1)
            have ND := hid (show (delY y' 0 false).ns.length ≤ 16 * (k + 1) from by have h2 := del0_len y' h1; have h3 := N3.out; omega)
            have QD := hid (show QOK (delY y' 0 false).h from qok_same Q3.out (delY_h y' 0 false).2.2.2.1 (delY_h y' 0 false).2.1 (delY_h y' 0 false).2.2.1)
            have LD := hid (show (delY y' 0 false).h.q.length ≤ 5 from by rw [(delY_h y' 0 false).2.1]; exact L3.out)
            clear h0 h1 T3 N3 F3 Q3 L3
            go_wp2_with fail
            refine DL.out.mono ?_
            rintro x w16 ⟨rfl, hT⟩
            have T4 := hid hT
            clear hT DL
            go_simp
            go_wp2_with fail
            go_roundw
            case rel => exact ⟨j + 1, _, by omega, by go_num, by rw [RR.out, E9.out], T4.out, FD.out, ND.out, QD.out, LD.out⟩
            case measure => simp [intOf]; omega
        · have hje : j = 100 := by omega
          subst hje
          have E9 := hid (show runD (100 - 100) y' = y' from rfl)
          go_wp2_with fail
          go_roundw
          case rel => exact ⟨k + 1, by omega, by go_num, by rw [HS_.out, RR.out, E9.out]; exact T3.out, by rw [HS_.out, RR.out, E9.out]; exact F3.out.mono (by omega), by rw [HS_.out, RR.out, E9.out]; exact N3.out, by rw [HS_.out, RR.out, E9.out]; exact Q3.out, by rw [HS_.out, RR.out, E9.out]; exact L3.out⟩
          case measure => simp [intOf]; omega
    · have hkn : k = 6 := by omega
      subst hkn
      rw [← HYF.out] at T1
      have SM := hid (fun w h => ysame_any (S := []) (W := W) (w := w) (D := D) (y := yF) (N := 16 + 101 * 6) (D9 := D9) (R := [thB G 21 (f3 e0 e1 e2), thB P 330 (pc p)]) h u (by omega))
      obtain ⟨q, hq⟩ : ∃ q, q = yF.h.pl := ⟨_, rfl⟩
      have P1 := (fun w h => tw_pool (S := []) (W := W) (w := w) (D := D) (y := yF) (N := 16 + 101 * 6) (D9 := D9) (y9 := yF) (R := [thB G 21 (f3 e0 e1 e2), thB P 330 (pc p)]) h)
      have P2 := (fun w h => tw_rpool (S := []) (W := W) (w := w) (D := D) (y := yF) (N := 16 + 101 * 6) (D9 := D9) (y9 := yF) (R := [thB G 21 (f3 e0 e1 e2), thB P 330 (pc p)]) h)
      simp only [← hq] at P1 P2
      replace P1 := hid P1
      replace P2 := hid P2
      clear hq F1 N1 Q1 L1 HYF
      go_wp2_with fail
      refine (P1.out _ T1.out).mono ?_
      rintro x w15 ⟨rfl, hT⟩
      have T2 := hid hT
      clear hT T1 P1
      go_simp
      go_wp2_with fail
      refine (P2.out _ T2.out).mono ?_
      rintro x w16 ⟨rfl, hT⟩
      have T3 := hid hT
      clear hT T2 P2
      go_simp
      go_wp2_with ((with_reducible refine wl_id ?_); refine wl_ow rfl (ov_val (ex_eqFP _ _ rfl q rfl rfl _) ?_))
      refine (SM.out _ T3.out).mono ?_
      rintro x w17 ⟨rfl, hT⟩
      have T4 := hid hT
      clear hT T3 SM
      go_simp
      go_wp2_with fail
      go_ret
      exact ⟨rfl, T4.out.ch.below (by simp) (Nat.le_refl _)⟩

set_option maxRecDepth 100000 in
theorem lifted (os : Os) (started : os.Started) (H : Type) (enc : TypeId × Value → H) :
    ReturnsInHanded {} Tryz.checked os 3 .any (Rows.yardWishesSpec.pre6 enc Tryz.prog Tryz.f3 [] false) (Rows.yardWishesSpec.post enc Tryz.prog Tryz.f3 false true false false) :=
  law_step (s := Rows.yardWishesSpec) started (by kernel_rfl) Tryz.func3
    (ChangeSpec.witness6 (s := Rows.yardWishesSpec) (enc := enc) (C := Tryz.checked) false ⟨#[], #[.slice none 0 0, .int .i64 0, .int .i64 0], []⟩ 8 (by kernel_rfl) (by kernel_rfl) (by kernel_rfl) (by kernel_rfl))
    rfl (by rw [Tryz.params3]; decide +kernel) rfl Tryz.underlying4
    (fun ds h => by
      rw [Tryz.params3] at h
      match ds, h with
      | [_, _, _], _ => rfl)
    (fun W base args ds ps hval hA hsz => by
      rw [Tryz.params3] at hA hval hsz
      obtain ⟨v0, vs0, d0, ds0, p0, q0, hargs, rfl, rfl, h0, r0⟩ := trodAll_cons hA
      obtain ⟨v1, vs1, d1, ds1, p1, q1, rfl, rfl, rfl, h1, r1⟩ := trodAll_cons r0
      obtain ⟨v2, vs2, d2, ds2, p2, q2, rfl, rfl, rfl, h2, r2⟩ := trodAll_cons r1
      obtain ⟨rfl, rfl, rfl⟩ := trodAll_nil r2
      obtain rfl : args = #[v0, v1, v2] := by cases args; simp_all
      obtain ⟨A0, n0, c0, g0, rfl, hn0, hc0, hs0, hw0, hl0, hd0⟩ := open_row Tryz.underlying22 Tryz.underlying3 (by kernel_rfl) (hval 0 22 v0 rfl rfl) h0
      have re0 : c0 * 8 ≤ 140737488351232 := by
        rcases hd0 with ⟨_, h0⟩ | ⟨xs, ys, h1, h2⟩
        · omega
        · have := sized_slice hsz (j := 0) (t := 22) (e := 3) rfl (by rw [h1]; rfl) Tryz.underlying22
          rw [h2, show Tryz.prog.bytesOf 3 = 8 from by kernel_rfl] at this
          simpa [reachBytes] using this
      obtain ⟨a1, rfl, rfl, rfl, w1⟩ := open_int Tryz.underlying3 (hval 1 3 v1 rfl rfl) h1
      obtain ⟨a2, rfl, rfl, rfl, w2⟩ := open_int Tryz.underlying3 (hval 2 3 v2 rfl rfl) h2
      exact walk W A0 n0 c0 g0 hn0 hc0 hs0 (fun j => bounds_i64 (hw0 j)) hl0 re0 a1 (bounds_i64 w1) a2 (bounds_i64 w2))

theorem proved : Rows.YardWishesSaid :=
  OpenClaim.holds_of_wide 3 Tryz.f3 rfl rfl rfl rfl rfl rfl rfl ⟨rfl, rfl, rfl, rfl, rfl⟩ rfl rfl rfl rfl rfl (by kernel_rfl) Tryz.func3 (by kernel_rfl)
    (of_decide_eq_true (by kernel_rfl)) (by unfold Func.isWrapper; first | (rw [if_pos (by decide +kernel)]; kernel_rfl) | (rw [if_neg (by decide +kernel)]; exact ⟨rfl, rfl⟩))
    (fun os started H enc _ => lifted os started H enc)
end Go.Proofs.YteefhiniamajkaaGreat.yardWishes
