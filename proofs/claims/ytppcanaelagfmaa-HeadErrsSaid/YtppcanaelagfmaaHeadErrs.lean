/- roundhouselaw11.HeadErrs answers true for every row, any number of units, every row of numbers, any number; no condition. -/
import Derived.Test.YtppcanaelagfmaaHdRow
import Derived.Test.YtppcanaelagfmaaHdKnown
import Derived.BigQuiet
import Derived.Deep.RegionHeld3
import Derived.Deep.Cut
import Derived.Deep.CutRange
import Derived.IntWalk
namespace Go.Proofs.Ytppcanaelagfmaa.headErrs
set_option linter.unusedVariables false
set_option linter.unusedSimpArgs false
open Go.RowKit Go.ChangeShapes Go.WideShapes Go.ChangeAt

theorem u64_in (j : Nat) (h : j ≤ 1000000) : IntKind.u64.wrap (j : Int) = (j : Int) := by
  have : (2 : Int) ^ 64 = 18446744073709551616 := by decide
  unfold IntKind.wrap IntKind.bits IntKind.signed
  simp
  omega
attribute [local irreducible] FA FL
set_option maxRecDepth 100000 in
set_option maxHeartbeats 8000000 in
theorem walk (W : World) (A1 : Option Addr) (n1 c1 : Nat) (g1 : Nat → Int) (hn1 : n1 ≤ c1) (hc1 : c1 ≤ maxLen) (hr1 : Is W A1 n1 g1) (hg1 : IsI g1) (hl1 : ∀ ad, A1 = some ad → 0 < n1 → ad.block < W.heap.size) (re1 : c1 * 8 ≤ 140737488351232) (a0 : Int) (r_a0 : -9223372036854775808 ≤ a0 ∧ a0 ≤ 9223372036854775807) (A2 : Option Addr) (n2 c2 : Nat) (g2 : Nat → Int) (hn2 : n2 ≤ c2) (hc2 : c2 ≤ maxLen) (hr2 : Is W A2 n2 g2) (hg2 : IsI g2) (hl2 : ∀ ad, A2 = some ad → 0 < n2 → ad.block < W.heap.size) (re2 : c2 * 8 ≤ 140737488351232) (b0 : Int) (r_b0 : -9223372036854775808 ≤ b0 ∧ b0 ≤ 9223372036854775807) :
    Calls Try.prog 3 #[.slice A1 n1 c1, .int .i64 a0, .slice A2 n2 c2, .int .i64 b0] W fun e w' => e = .returned (.bool true) ∧ Below W.heap.size W w' := by
  unfold maxLen at hc1
  have hnm : (n1 : Int) ≤ 9223372036854775807 := by have := hn1; omega
  have HL := hid hl1
  clear hl1 re1
  obtain ⟨p, hp⟩ : ∃ p, p = mkP g1 (min n1 30) := ⟨_, rfl⟩
  have HQ := hid (show Pinv p 30 from by rw [hp]; exact (mkP_inv g1 _).mono (by omega))
  have MK := hid (fun (w : World) (h : Is w A1 n1 g1) (hl : ∀ ad, A1 = some ad → 0 < n1 → ad.block < w.heap.size) => (show Calls Try.prog 13 #[.slice A1 n1 c1, .int .i64 30] w fun x w' => x = .returned (.agg (FA 330 (pc p))) ∧ Below w.heap.size w w' from by rw [hp]; exact make_fa w A1 n1 c1 g1 h hl hnm 30 (by omega)))
  clear hp
  have HR2 := hid hr2
  have HGI := hid hg2
  clear hr2 hg2 hl2 re2
  obtain ⟨n0, hn0⟩ : ∃ x : Nat, (x : Int) = wi b0 10 := ⟨(wi b0 10).toNat, by have := wi_bd b0 10 (by omega); omega⟩
  have bn0 := wi_bd b0 10 (by omega)
  rw [← hn0] at bn0
  have Wn0 := hid (fun w => re_i64 (within_any b0 10 w (by omega) (by omega)) hn0.symm)
  clear hn0
  obtain ⟨bn01, bn02⟩ := bn0
  obtain ⟨e0, NA, RA⟩ := news p a0
  replace NA := hid NA
  replace RA := hid RA
  have S0 : Hid (HS [] W W []) := hid HS.start
  go_enter Try.func3, Try.ntmps3
  go_wp2_with fail
  refine (hknown_any _).mono ?_
  rintro x w1 ⟨rfl, hB⟩
  have R1 := hid (hr1.below hB (Nat.le_refl _))
  have B1 := hid hB
  have S1 : Hid (HS [] W w1 []) := hid (S0.out.below hB)
  clear hr1 hB S0
  go_wp2_with fail
  refine (MK.out _ R1.out (fun ad e h => Nat.lt_of_lt_of_le (HL.out ad e h) B1.out.size)).mono ?_
  rintro x w2 ⟨rfl, hb⟩
  have S2 : Hid (HS [] W w2 []) := hid (S1.out.below hb)
  clear hb S1 MK
  go_simp
  go_upto_region 4 with (first | ((with_reducible refine wl_id ?_); refine wl_ow rfl (ow_alloc rfl (zpl_fa _) (by omega) S2.out ?_); intro P w_ hZ _; have SA := hid hZ; clear hZ) | ((with_reducible refine wl_id ?_); refine wl_ow rfl (ow_store (A := []) 0 330 (pc p) (pc p) rfl rfl rfl SA.out (by omega) (fun j hj => patch_all _ _ _ j hj) info_pl (pc_one _) ?_); intro w_ hZ; have SX := hid hZ; clear hZ))
  have S3 : Hid (HS [] W _ [thB P 330 (pc p)]) := hid (SX.out)
  go_wp2_with ((with_reducible refine wl_id ?_); refine wl_ow rfl (ow_load 0 rfl 0 330 (pc p) rfl rfl S3.out (by omega) (fun j hj => by rw [Nat.zero_add]) Try.underlying33 rfl info_pl ?_))
  refine (NA.out _).mono ?_
  rintro x w4 ⟨A4, rfl, hA4, hb⟩
  have HA4 := hid hA4
  have S4 : Hid (HS [] W w4 [thB P 330 (pc p)]) := hid (S3.out.below hb)
  clear hb hA4 NA
  go_simp
  go_wp2_with ((with_reducible refine wl_id ?_); refine wl_ow rfl (ow_load 0 rfl 0 330 (pc p) rfl rfl S4.out (by omega) (fun j hj => by rw [Nat.zero_add]) Try.underlying33 rfl info_pl ?_))
  refine (RA.out _).mono ?_
  rintro x w5 ⟨A5, rfl, hb⟩
  have S5 : Hid (HS [] W w5 [thB P 330 (pc p)]) := hid (S4.out.below hb)
  clear hb RA
  go_simp
  have NW := hid (hnew_fa p 3 ⟨by omega, by omega⟩)
  go_wp2_with ((with_reducible refine wl_id ?_); refine wl_ow rfl (ow_load 0 rfl 0 330 (pc p) rfl rfl S5.out (by omega) (fun j hj => by rw [Nat.zero_add]) Try.underlying33 rfl info_pl ?_))
  refine (NW.out _).mono ?_
  rintro x w6 ⟨b, c, m, rfl, hH, hg1, hg2, hg3, hB⟩
  have S6 : Hid (HS [] W w6 [thH b c m 3 (newH p 3), thB P 330 (pc p)]) := hid (HS.addH S5.out hH hg1 hg2 hg3 hB)
  clear hH hg1 hg2 hg3 hB NW S5
  go_simp
  have RW := hid (rhnew_ok p 3 ⟨by omega, by omega⟩)
  go_wp2_with ((with_reducible refine wl_id ?_); refine wl_ow rfl (ow_load 1 rfl 0 330 (pc p) rfl rfl S6.out (by omega) (fun j hj => by rw [Nat.zero_add]) Try.underlying33 rfl info_pl ?_))
  refine (RW.out _).mono ?_
  rintro x w7 ⟨X, v, rfl, hF, hg, hB⟩
  have S7 : Hid (HS [] W w7 [thB X 340 (rhc p (.slice none 0 0) zEn false v), thH b c m 3 (newH p 3), thB P 330 (pc p)]) := hid (HS.new S6.out (thB X 340 (rhc p (.slice none 0 0) zEn false v)) hB hF (by simp [thB]) (fun b hb => by simp [thB] at hb; omega))
  clear hF hg hB RW S6
  go_simp
  go_upto_region 8 with (fail)
  go_cut [72] from 51 to 72 (fun x wx => x = .bool false ∧ w7 = wx)
  case first =>
    rcases HA4.out with ⟨rfl, rfl⟩ | ⟨⟨b4, rfl⟩, rfl⟩
    · go_wp2_with fail
      go_meet
      exact ⟨rfl, rfl⟩
    · go_wp2_with fail
      go_meet
      exact ⟨rfl, rfl⟩
  case rest =>
    obtain ⟨rfl, rfl⟩ := hcut
    clear HA4
    go_wp2_with fail
    obtain ⟨D, hD⟩ : ∃ D, D = w7.heap.size := ⟨_, rfl⟩
    have HD := hid hD
    have LT := hid (S7.out.ltD)
    rw [← hD] at LT
    have WD := hid (show W.heap.size ≤ D from by rw [hD]; exact S7.out.wsize)
    clear hD
    obtain ⟨GG, hG⟩ : ∃ GG : Nat → En, GG = fun k => enN (g2 k) := ⟨_, rfl⟩
    have HG := hid (fun k => (show GG k = enN (g2 k) from by rw [hG]))
    clear hG
    go_loopw [18, 19] (fun v i wx => ∃ (k : Nat) (A : Option Addr) (d : Nat), k ≤ n2 ∧ k ≤ 20 ∧ v = .slice A k d ∧ i = .int .i64 (k : Int) ∧ OwE wx D (.slice A k d) k GG ∧ Below D w7 wx) (fun _ i _ => 20 - (intOf i).toNat)
    case atStart => exact ⟨0, none, 0, by omega, by omega, rfl, rfl, OwE.nil, Below.refl _ _⟩
    case round =>
      obtain ⟨k, A, d, hk, hk20, rfl, rfl, hO, hBl⟩ := hrel
      have HO := hid hO
      have BL := hid hBl
      clear hO hBl
      have LD := hid (show D ≤ wr.heap.size from by rw [HD.out]; exact BL.out.size)
      go_upto_region 12 with (fail)
      obtain ⟨bb, hbb⟩ : ∃ bb : Bool, bb = (decide (k < n2) && decide (k < 20)) := ⟨_, rfl⟩
      have HBB := hid hbb
      clear hbb
      go_cut [80] from 73 to 80 (fun x wx => x = .bool bb ∧ wr = wx)
      case first =>
        by_cases h1 : (k : Int) < n2
        · by_cases h2 : (k : Int) < 20
          · go_wp2_with fail
            go_meet
            exact ⟨by rw [HBB.out]; simp; omega, rfl⟩
          · go_wp2_with fail
            go_meet
            exact ⟨by rw [HBB.out]; simp; omega, rfl⟩
        · go_wp2_with fail
          go_meet
          exact ⟨by rw [HBB.out]; simp; omega, rfl⟩
      case rest =>
        obtain ⟨rfl, rfl⟩ := hcut
        cases bb
        · clear HBB
          obtain ⟨w8, hw8⟩ : ∃ w8, w8 = wr := ⟨_, rfl⟩
          subst hw8
          have S8 : Hid (HS [] W w8 [thB X 340 (rhc p (.slice none 0 0) zEn false v), thH b c m 3 (newH p 3), thB P 330 (pc p)]) := hid (S7.out.belowD LT.out WD.out BL.out)
          clear S7 BL
          go_wp2_with fail
          obtain ⟨D2, hD2⟩ : ∃ D2, D2 = w8.heap.size := ⟨_, rfl⟩
          have HD2 := hid hD2
          have DD := hid (show D ≤ D2 from by rw [hD2]; exact LD.out)
          clear hD2
          go_loopw [20, 21] (fun v i wy => ∃ (j : Nat) (A2 : Option Addr) (d2 : Nat), j ≤ 195 + n0 ∧ v = .slice A2 j d2 ∧ i = .int .i64 (j : Int) ∧ OwE wy D2 (.slice A2 j d2) j eM ∧ Below D2 w8 wy) (fun _ i _ => 195 + n0 - (intOf i).toNat)
          case atStart => exact ⟨0, none, 0, by omega, rfl, rfl, OwE.nil, Below.refl _ _⟩
          case round =>
            obtain ⟨j, A2, d2, hj, rfl, rfl, hO, hBl⟩ := hrel
            have HM := hid hO
            have BM := hid hBl
            clear hO hBl
            have LM := hid (show D2 ≤ wr.heap.size from by rw [HD2.out]; exact BM.out.size)
            by_cases hlt : (j : Int) < 195 + n0
            · go_wp2_with fail
              refine (Wn0.out _).mono ?_
              rintro x w_ ⟨rfl, rfl⟩
              go_simp
              have x9 := u64_in j (by omega)
              go_wp2_with (at_builtin; refine wp_app_e rfl (.tmp 98) (.tmp 103) rfl D2 _ j eM rfl (Ow.alloc HM.out _) wr.heap.size 1 rfl (Ce.made rfl) (by omega) (by have := LM.out; simp; omega) ?_; intro A' d' w5 hown hbel hgr; have HM5 := hid hown; have B5 := hid hbel; clear hown hbel hgr)
              have BM5 := hid ((BM.out.alloc LM.out (.cells _ _)).trans B5.out)
              go_roundw
              case rel => exact ⟨j + 1, A', d', by omega, rfl, by go_num, HM5.out, BM5.out⟩
              case measure => simp [intOf]; omega
            · have hjm : j = 195 + n0 := by omega
              go_wp2_with fail
              refine (Wn0.out _).mono ?_
              rintro x w_ ⟨rfl, rfl⟩
              go_simp
              have HO2 := hid (HO.out.keep BM.out (by rw [HD2.out]; exact Nat.le_refl _))
              have S9 : Hid (HS [] W wr [thB X 340 (rhc p (.slice none 0 0) zEn false v), thH b c m 3 (newH p 3), thB P 330 (pc p)]) := hid (S8.out.below (by rw [← HD2.out]; exact BM.out))
              clear HO S8 BM
              go_simp
              obtain ⟨mm, hmm⟩ : ∃ mm, mm = 195 + n0 := ⟨_, rfl⟩
              have hmm2 : mm ≤ 210 := by omega
              skip
              have HBD := hid (show b < D ∧ c < D ∧ m < D ∧ X < D from ⟨LT.out b (by simp [thB, thH]), LT.out c (by simp [thB, thH]), LT.out m (by simp [thB, thH]), LT.out X (by simp [thB, thH])⟩)
              have NA1 := hid (fun ad (e : A = some ad) => HO2.out.addr ad e)
              have NA2 := hid (fun ad (e : A2 = some ad) => Nat.le_trans DD.out (HM.out.addr ad e))
              have SE1 := hid HO2.out.se
              have SE2 := hid (show Se wr A2 (195 + n0) eM from by rw [← hjm]; exact HM.out.se)
              clear HO2 HM
              go_wp2_with fail
              refine (wish1 HQ.out (S9.out.nth 1 rfl : HeadAt _ b c m 3 ⟨p, p, [], zEn, 3, fun _ => ⟨0, -1⟩⟩) SE1.out (fun ad e _ => by have h1 := NA1.out ad e; have h2 := HBD.out; simp; omega) (by omega)).mono ?_
              rintro x w10 ⟨er, kk, bp, Q, rfl, hW, hQ, hH, hC⟩
              have S10 : Hid (HS [] W w10 [thB X 340 (rhc p (.slice none 0 0) zEn false v), thH b c m 3 ⟨p, bp, Q, zEn, 3, fun _ => ⟨0, -1⟩⟩, thB P 330 (pc p)]) := hid (HS.upd (A := [thB X 340 (rhc p (.slice none 0 0) zEn false v)]) (B := [thB P 330 (pc p)]) S9.out (thH b c m 3 ⟨p, bp, Q, zEn, 3, fun _ => ⟨0, -1⟩⟩) rfl hC hH)
              have SF1 : Hid (Se w10 A k GG) := hid (hC.sl SE1.out (fun ad e _ => by have h1 := NA1.out ad e; have h2 := HBD.out; simp; omega))
              have SF2 : Hid (Se w10 A2 (195 + n0) eM) := hid (hC.sl SE2.out (fun ad e _ => by have h1 := NA2.out ad e; have h2 := HBD.out; simp; omega))
              have HW := hid hW
              have WA := hid (show ∀ (w : World), HeadAt w b c m 3 ⟨p, bp, Q, zEn, 3, fun _ => ⟨0, -1⟩⟩ → Calls Try.prog 19 #[.pointer (some ⟨b, 0, none⟩)] w fun x w' => x = .returned (.int .i64 (kk : Int)) ∧ w = w' from fun w h => by have h2 := waiting_any h; rw [show (⟨p, bp, Q, zEn, 3, fun _ => ⟨0, -1⟩⟩ : Hd).q.length = kk from hQ] at h2; exact h2)
              have HQL := hid hQ
              have hkk : kk ≤ 20 := by have := hW.1; omega
              clear hW hQ hH hC S9 SE1 SE2
              go_simp
              go_wp2_with fail
              refine (WA.out _ (S10.out.nth 1 rfl)).mono ?_
              rintro x w' ⟨rfl, rfl⟩
              go_simp
              go_wp2_with fail
              refine (wish2 HW.out.2.1 (S10.out.nth 1 rfl : HeadAt _ b c m 3 ⟨p, bp, Q, zEn, 3, fun _ => ⟨0, -1⟩⟩) HQL.out hkk SF2.out (fun ad e _ => by have h1 := NA2.out ad e; have h2 := HBD.out; simp; omega) (by omega)).mono ?_
              rintro x w11 ⟨rfl, bp2, Q2, hQ, hH, hC⟩
              have S11 : Hid (HS [] W w11 [thB X 340 (rhc p (.slice none 0 0) zEn false v), thH b c m 3 ⟨p, bp2, Q2, zEn, 3, fun _ => ⟨0, -1⟩⟩, thB P 330 (pc p)]) := hid (HS.upd (A := [thB X 340 (rhc p (.slice none 0 0) zEn false v)]) (B := [thB P 330 (pc p)]) S10.out (thH b c m 3 ⟨p, bp2, Q2, zEn, 3, fun _ => ⟨0, -1⟩⟩) rfl hC hH)
              have SG1 : Hid (Se w11 A k GG) := hid (hC.sl SF1.out (fun ad e _ => by have h1 := NA1.out ad e; have h2 := HBD.out; simp; omega))
              have SG2 : Hid (Se w11 A2 (195 + n0) eM) := hid (hC.sl SF2.out (fun ad e _ => by have h1 := NA2.out ad e; have h2 := HBD.out; simp; omega))
              obtain ⟨k2, hk2⟩ : ∃ k2, k2 = K2 kk (195 + n0) := ⟨_, rfl⟩
              obtain ⟨e2, he2⟩ : ∃ e2, e2 = E2 kk (195 + n0) := ⟨_, rfl⟩
              rw [← hk2] at hQ
              rw [← he2]
              have HK2 := hid hk2
              have HE2 := hid he2
              clear hk2 he2
              have WB := hid (show ∀ (w : World), HeadAt w b c m 3 ⟨p, bp2, Q2, zEn, 3, fun _ => ⟨0, -1⟩⟩ → Calls Try.prog 19 #[.pointer (some ⟨b, 0, none⟩)] w fun x w' => x = .returned (.int .i64 (k2 : Int)) ∧ w = w' from fun w h => by have h2 := waiting_any h; rw [show (⟨p, bp2, Q2, zEn, 3, fun _ => ⟨0, -1⟩⟩ : Hd).q.length = k2 from hQ] at h2; exact h2)
              obtain ⟨pv, hpv⟩ : ∃ x, p.v = x := ⟨_, rfl⟩
              have VA := hid (show ∀ (w : World), HeadAt w b c m 3 ⟨p, bp2, Q2, zEn, 3, fun _ => ⟨0, -1⟩⟩ → Calls Try.prog 21 #[.pointer (some ⟨b, 0, none⟩)] w fun x w' => x = .returned (.int .i64 pv) ∧ w = w' from fun w h => by rw [← hpv]; exact version_any h)
              have cp := hid (show ∀ w, Fb w P 330 (pc p) → w.cell? ⟨P, 0, none⟩ = some (.int .i64 pv) from fun w h => by rw [← hpv]; exact h.2.1 0 (by omega))
              clear hpv hQ hH hC S10 SF1 SF2 WA
              go_simp
              go_upto_region 22 with (fail)
              refine wp_region_held_drew (S := fun (w' : World) => ∃ r, HS [] W w' [thB X 340 (rhc p r zEn false v), thH b c m 3 ⟨p, bp2, Q2, zEn, 3, fun _ => ⟨0, -1⟩⟩, thB P 330 (pc p)]) (by kernel_rfl) ?_ (fun hHeld => ?_)
              · exact ⟨_, S11.out.drew⟩
              have F0 := S11.out.drew
              have F1 : Se w11.drew A k GG := Sl.drew SG1.out
              have F2 : Se w11.drew A2 (195 + n0) eM := Sl.drew SG2.out
              refine tk 0 (v := ?_) rfl (by kernel_rfl) (by kernel_rfl) (by kernel_rfl) (fun _ _ _ h => h) rfl ?_ hHeld ?_; rotate_left; (focus (intro w hSw; (try dsimp only at hSw);  go_simp; (try with_reducible rfl))); (try simp only [Act.put, List.setIfInBounds_toArray, List.set_cons_zero, List.set_cons_succ])
              refine tk 1 (v := ?_) rfl (by kernel_rfl) (by kernel_rfl) (by kernel_rfl) (fun _ _ _ h => h) rfl ?_ hHeld ?_; rotate_left; (focus (intro w hSw; (try dsimp only at hSw);  go_simp; (try with_reducible rfl))); (try simp only [Act.put, List.setIfInBounds_toArray, List.set_cons_zero, List.set_cons_succ])
              refine tk 2 (v := ?_) rfl (by kernel_rfl) (by kernel_rfl) (by kernel_rfl) (fun _ _ _ h => h) rfl ?_ hHeld ?_; rotate_left; (focus (intro w hSw; (try dsimp only at hSw);  go_simp; (try with_reducible rfl))); (try simp only [Act.put, List.setIfInBounds_toArray, List.set_cons_zero, List.set_cons_succ])
              refine only 3 rfl (by kernel_rfl) rfl (fun K hK => ?_)
              go_simp
              refine (rwish1 HQ.out (F0.fb 0 rfl) F1 (by omega) HW.out).mono ?_
              rintro e' w' ⟨rfl, A5_, c5_, hF, hS5, hC⟩
              try go_wp2_with fail
              have hN : HS [] W w' [thB X 340 (rhc p (.slice A5_ kk c5_) zEn false v), thH b c m 3 ⟨p, bp2, Q2, zEn, 3, fun _ => ⟨0, -1⟩⟩, thB P 330 (pc p)] := HS.upd (A := []) (B := [thH b c m 3 ⟨p, bp2, Q2, zEn, 3, fun _ => ⟨0, -1⟩⟩, thB P 330 (pc p)]) F0 (thB X 340 (rhc p (.slice A5_ kk c5_) zEn false v)) rfl hC hF
              have hS6 : Se w' A2 (195 + n0) eM := hC.sl F2 (fun ad e _ => by have h1 := NA2.out ad e; have h2 := HBD.out; simp; omega)
              refine hK.out _ _ (⟨_, hN⟩) (fun h2 => ?_)
              clear hK
              try simp only [Act.put, List.setIfInBounds_toArray, List.set_cons_zero, List.set_cons_succ]
              clear hF hC F0 F1 F2
              refine tk 4 (v := ?_) rfl (by kernel_rfl) (by kernel_rfl) (by kernel_rfl) (fun _ _ _ h => h) rfl ?_ h2 ?_; rotate_left; (focus (intro w hSw; (try dsimp only at hSw);  go_simp; (try with_reducible rfl))); (try simp only [Act.put, List.setIfInBounds_toArray, List.set_cons_zero, List.set_cons_succ])
              refine tk 5 (v := ?_) rfl (by kernel_rfl) (by kernel_rfl) (by kernel_rfl) (fun _ _ _ h => h) rfl ?_ h2 ?_; rotate_left; (focus (intro w hSw; (try dsimp only at hSw);  go_simp; (try with_reducible rfl))); (try simp only [Act.put, List.setIfInBounds_toArray, List.set_cons_zero, List.set_cons_succ])
              refine tk 6 (v := ?_) rfl (by kernel_rfl) (by kernel_rfl) (by kernel_rfl) (fun _ _ _ h => h) rfl ?_ h2 ?_; rotate_left; (focus (intro w hSw; (try dsimp only at hSw);  go_simp; (try with_reducible rfl))); (try simp only [Act.put, List.setIfInBounds_toArray, List.set_cons_zero, List.set_cons_succ])
              refine tk 7 (v := ?_) rfl (by kernel_rfl) (by kernel_rfl) (by kernel_rfl) (fun _ _ _ h => h) rfl ?_ h2 ?_; rotate_left; (focus (intro w hSw; (try dsimp only at hSw);  go_simp; (try with_reducible rfl))); (try simp only [Act.put, List.setIfInBounds_toArray, List.set_cons_zero, List.set_cons_succ])
              refine tk 8 (v := ?_) rfl (by kernel_rfl) (by kernel_rfl) (by kernel_rfl) (fun _ _ _ h => h) rfl ?_ h2 ?_; rotate_left; (focus (intro w hSw; (try dsimp only at hSw);  go_simp; (try with_reducible rfl))); (try simp only [Act.put, List.setIfInBounds_toArray, List.set_cons_zero, List.set_cons_succ])
              refine tk 9 (v := ?_) rfl (by kernel_rfl) (by kernel_rfl) (by kernel_rfl) (fun _ _ _ h => h) rfl ?_ h2 ?_; rotate_left; (focus (intro w hSw; (try dsimp only at hSw);  go_simp; (try with_reducible rfl))); (try simp only [Act.put, List.setIfInBounds_toArray, List.set_cons_zero, List.set_cons_succ])
              have y0 : w'.cell? ⟨X, 330, none⟩ = some (.slice A5_ kk c5_) := (hN.fb 0 rfl).2.1 330 (by omega)
              refine only 10 rfl (by kernel_rfl) rfl (fun K hK => ?_)
              refine ov_val (v := .slice A5_ kk c5_) (by go_simp) ?_
              refine hK.out _ _ (⟨_, hN⟩) (fun h2 => ?_)
              clear hK
              try simp only [Act.put, List.setIfInBounds_toArray, List.set_cons_zero, List.set_cons_succ]
              clear y0
              refine tk 11 (v := ?_) rfl (by kernel_rfl) (by kernel_rfl) (by kernel_rfl) (fun _ _ _ h => h) rfl ?_ h2 ?_; rotate_left; (focus (intro w hSw; (try dsimp only at hSw);  go_simp; (try with_reducible rfl))); (try simp only [Act.put, List.setIfInBounds_toArray, List.set_cons_zero, List.set_cons_succ])
              refine tk 12 (v := ?_) rfl (by kernel_rfl) (by kernel_rfl) (by kernel_rfl) (fun _ _ _ h => h) rfl ?_ h2 ?_; rotate_left; (focus (intro w hSw; (try dsimp only at hSw);  go_simp; (try with_reducible rfl))); (try simp only [Act.put, List.setIfInBounds_toArray, List.set_cons_zero, List.set_cons_succ])
              refine tk 13 (v := ?_) rfl (by kernel_rfl) (by kernel_rfl) (by kernel_rfl) (fun _ _ _ h => h) rfl ?_ h2 ?_; rotate_left; (focus (intro w hSw; (try dsimp only at hSw);  go_simp; (try with_reducible rfl))); (try simp only [Act.put, List.setIfInBounds_toArray, List.set_cons_zero, List.set_cons_succ])
              refine tk 14 (v := ?_) rfl (by kernel_rfl) (by kernel_rfl) (by kernel_rfl) (fun _ _ _ h => h) rfl ?_ h2 ?_; rotate_left; (focus (intro w hSw; (try dsimp only at hSw);  go_simp; (try with_reducible rfl))); (try simp only [Act.put, List.setIfInBounds_toArray, List.set_cons_zero, List.set_cons_succ])
              refine tk 15 (v := ?_) rfl (by kernel_rfl) (by kernel_rfl) (by kernel_rfl) (fun _ _ _ h => h) rfl ?_ h2 ?_; rotate_left; (focus (intro w hSw; (try dsimp only at hSw);  go_simp; (try with_reducible rfl))); (try simp only [Act.put, List.setIfInBounds_toArray, List.set_cons_zero, List.set_cons_succ])
              refine tk 16 (v := ?_) rfl (by kernel_rfl) (by kernel_rfl) (by kernel_rfl) (fun _ _ _ h => h) rfl ?_ h2 ?_; rotate_left; (focus (intro w hSw; (try dsimp only at hSw);  go_simp; (try with_reducible rfl))); (try simp only [Act.put, List.setIfInBounds_toArray, List.set_cons_zero, List.set_cons_succ])
              refine tk 17 (v := ?_) rfl (by kernel_rfl) (by kernel_rfl) (by kernel_rfl) (fun _ _ _ h => h) rfl ?_ h2 ?_; rotate_left; (focus (intro w hSw; (try dsimp only at hSw);  go_simp; (try with_reducible rfl))); (try simp only [Act.put, List.setIfInBounds_toArray, List.set_cons_zero, List.set_cons_succ])
              refine only 18 rfl (by kernel_rfl) rfl (fun K hK => ?_)
              go_simp
              refine (rwish2 HQ.out (hN.fb 0 rfl) hS5 hS6 (by omega) (by omega) HW.out).mono ?_
              rintro e' w2 ⟨rfl, A6_, c6_, hF, hC⟩
              rw [← HE2.out]
              rw [← HK2.out] at hF
              try go_wp2_with fail
              have hN2 : HS [] W w2 [thB X 340 (rhc p (.slice A6_ k2 c6_) zEn false v), thH b c m 3 ⟨p, bp2, Q2, zEn, 3, fun _ => ⟨0, -1⟩⟩, thB P 330 (pc p)] := HS.upd (A := []) (B := [thH b c m 3 ⟨p, bp2, Q2, zEn, 3, fun _ => ⟨0, -1⟩⟩, thB P 330 (pc p)]) hN (thB X 340 (rhc p (.slice A6_ k2 c6_) zEn false v)) rfl hC hF
              refine hK.out _ _ (⟨_, hN2⟩) (fun h3 => ?_)
              clear hK
              try simp only [Act.put, List.setIfInBounds_toArray, List.set_cons_zero, List.set_cons_succ]
              clear hF hC hN hS5 hS6 h2
              refine more (fun w' => HS [] W w' [thB X 340 (rhc p (.slice A6_ k2 c6_) zEn false v), thH b c m 3 ⟨p, bp2, Q2, zEn, 3, fun _ => ⟨0, -1⟩⟩, thB P 330 (pc p)]) (fun w' h => ⟨_, h⟩) hN2 (fun h3 => ?_)
              refine tk 19 (v := ?_) rfl (by kernel_rfl) (by kernel_rfl) (by kernel_rfl) (fun _ _ _ h => h) rfl ?_ h3 ?_; rotate_left; (focus (intro w hSw; (try dsimp only at hSw);  go_simp; (try with_reducible rfl))); (try simp only [Act.put, List.setIfInBounds_toArray, List.set_cons_zero, List.set_cons_succ])
              refine tk 20 (v := ?_) rfl (by kernel_rfl) (by kernel_rfl) (by kernel_rfl) (fun _ _ _ h => h) rfl ?_ h3 ?_; rotate_left; (focus (intro w hSw; (try dsimp only at hSw);  go_simp; (try with_reducible rfl))); (try simp only [Act.put, List.setIfInBounds_toArray, List.set_cons_zero, List.set_cons_succ])
              refine tk 21 (v := ?_) rfl (by kernel_rfl) (by kernel_rfl) (by kernel_rfl) (fun _ _ _ h => h) rfl ?_ h3 ?_; rotate_left; (focus (intro w hSw; (try dsimp only at hSw);  go_simp; (try with_reducible rfl))); (try simp only [Act.put, List.setIfInBounds_toArray, List.set_cons_zero, List.set_cons_succ])
              refine tk 22 (v := ?_) rfl (by kernel_rfl) (by kernel_rfl) (by kernel_rfl) (fun _ _ _ h => h) rfl ?_ h3 ?_; rotate_left; (focus (intro w hSw; (try dsimp only at hSw);  go_simp; (try with_reducible rfl))); (try simp only [Act.put, List.setIfInBounds_toArray, List.set_cons_zero, List.set_cons_succ])
              refine tk 24 (v := ?_) rfl (by kernel_rfl) (by kernel_rfl) (by kernel_rfl) (fun _ _ _ h => h) rfl ?_ h3 ?_; rotate_left; (focus (intro w hSw; (try dsimp only at hSw);  go_simp; (try with_reducible rfl))); (try simp only [Act.put, List.setIfInBounds_toArray, List.set_cons_zero, List.set_cons_succ])
              refine tk 25 (v := ?_) rfl (by kernel_rfl) (by kernel_rfl) (by kernel_rfl) (fun _ _ _ h => h) rfl ?_ h3 ?_; rotate_left; (focus (intro w hSw; (try dsimp only at hSw);  go_simp; (try with_reducible rfl))); (try simp only [Act.put, List.setIfInBounds_toArray, List.set_cons_zero, List.set_cons_succ])
              refine tk 26 (v := ?_) rfl (by kernel_rfl) (by kernel_rfl) (by kernel_rfl) (fun _ _ _ h => h) rfl ?_ h3 ?_; rotate_left; (focus (intro w hSw; (try dsimp only at hSw);  go_simp; (try with_reducible rfl))); (try simp only [Act.put, List.setIfInBounds_toArray, List.set_cons_zero, List.set_cons_succ])
              refine tk 27 (v := ?_) rfl (by kernel_rfl) (by kernel_rfl) (by kernel_rfl) (fun _ _ _ h => h) rfl ?_ h3 ?_; rotate_left; (focus (intro w hSw; (try dsimp only at hSw); have y0 : w.cell? ⟨X, 330, none⟩ = some (.slice A6_ k2 c6_) := (hSw.fb 0 rfl).2.1 330 (by omega); go_simp; (try with_reducible rfl))); (try simp only [Act.put, List.setIfInBounds_toArray, List.set_cons_zero, List.set_cons_succ])
              refine tk 28 (v := ?_) rfl (by kernel_rfl) (by kernel_rfl) (by kernel_rfl) (fun _ _ _ h => h) rfl ?_ h3 ?_; rotate_left; (focus (intro w hSw; (try dsimp only at hSw);  go_simp; (try with_reducible rfl))); (try simp only [Act.put, List.setIfInBounds_toArray, List.set_cons_zero, List.set_cons_succ])
              refine only 23 rfl (by kernel_rfl) rfl (fun K hK => ?_)
              go_simp
              refine (WB.out _ (h3.nth 1 rfl)).mono ?_
              rintro e' w' ⟨rfl, rfl⟩
              try go_wp2_with fail
              refine hK.out _ _ (h3) (fun h4 => ?_)
              clear hK
              try simp only [Act.put, List.setIfInBounds_toArray, List.set_cons_zero, List.set_cons_succ]
              refine tk 29 (v := ?_) rfl (by kernel_rfl) (by kernel_rfl) (by kernel_rfl) (fun _ _ _ h => h) rfl ?_ h4 ?_; rotate_left; (focus (intro w hSw; (try dsimp only at hSw);  go_simp; (try with_reducible rfl))); (try simp only [Act.put, List.setIfInBounds_toArray, List.set_cons_zero, List.set_cons_succ])
              refine tk 30 (v := ?_) rfl (by kernel_rfl) (by kernel_rfl) (by kernel_rfl) (fun _ _ _ h => h) rfl ?_ h4 ?_; rotate_left; (focus (intro w hSw; (try dsimp only at hSw);  go_simp; (try with_reducible rfl))); (try simp only [Act.put, List.setIfInBounds_toArray, List.set_cons_zero, List.set_cons_succ])
              refine tk 31 (v := ?_) rfl (by kernel_rfl) (by kernel_rfl) (by kernel_rfl) (fun _ _ _ h => h) rfl ?_ h4 ?_; rotate_left; (focus (intro w hSw; (try dsimp only at hSw);  go_simp; (try with_reducible rfl))); (try simp only [Act.put, List.setIfInBounds_toArray, List.set_cons_zero, List.set_cons_succ])
              refine tk 32 (v := ?_) rfl (by kernel_rfl) (by kernel_rfl) (by kernel_rfl) (fun _ _ _ h => h) rfl ?_ h4 ?_; rotate_left; (focus (intro w hSw; (try dsimp only at hSw);  go_simp; (try with_reducible rfl))); (try simp only [Act.put, List.setIfInBounds_toArray, List.set_cons_zero, List.set_cons_succ])
              refine tk 34 (v := ?_) rfl (by kernel_rfl) (by kernel_rfl) (by kernel_rfl) (fun _ _ _ h => h) rfl ?_ h4 ?_; rotate_left; (focus (intro w hSw; (try dsimp only at hSw);  go_simp; (try with_reducible rfl))); (try simp only [Act.put, List.setIfInBounds_toArray, List.set_cons_zero, List.set_cons_succ])
              refine tk 35 (v := ?_) rfl (by kernel_rfl) (by kernel_rfl) (by kernel_rfl) (fun _ _ _ h => h) rfl ?_ h4 ?_; rotate_left; (focus (intro w hSw; (try dsimp only at hSw); have x0 := cp.out _ (hSw.fb 2 rfl); go_simp; (try with_reducible rfl))); (try simp only [Act.put, List.setIfInBounds_toArray, List.set_cons_zero, List.set_cons_succ])
              refine only 33 rfl (by kernel_rfl) rfl (fun K hK => ?_)
              go_simp
              refine (VA.out _ (h4.nth 1 rfl)).mono ?_
              rintro e' w' ⟨rfl, rfl⟩
              try go_wp2_with fail
              refine hK.out _ _ (h4) (fun h5 => ?_)
              clear hK
              try simp only [Act.put, List.setIfInBounds_toArray, List.set_cons_zero, List.set_cons_succ]
              refine tk 36 (v := ?_) rfl (by kernel_rfl) (by kernel_rfl) (by kernel_rfl) (fun _ _ _ h => h) rfl ?_ h5 ?_; rotate_left; (focus (intro w hSw; (try dsimp only at hSw);  go_simp; (try with_reducible rfl))); (try simp only [Act.put, List.setIfInBounds_toArray, List.set_cons_zero, List.set_cons_succ])
              refine tk 37 (v := ?_) rfl (by kernel_rfl) (by kernel_rfl) (by kernel_rfl) (fun _ _ _ h => h) rfl ?_ h5 ?_; rotate_left; (focus (intro w hSw; (try dsimp only at hSw);  go_simp; (try with_reducible rfl))); (try simp only [Act.put, List.setIfInBounds_toArray, List.set_cons_zero, List.set_cons_succ])
              refine tk 38 (v := ?_) rfl (by kernel_rfl) (by kernel_rfl) (by kernel_rfl) (fun _ _ _ h => h) rfl ?_ h5 ?_; rotate_left; (focus (intro w hSw; (try dsimp only at hSw);  go_simp; (try with_reducible rfl))); (try simp only [Act.put, List.setIfInBounds_toArray, List.set_cons_zero, List.set_cons_succ])
              have B9 := hid h5.bl
              clear h5 h4 h3 hHeld S11
              refine wpAnyH_done (by kernel_rfl) ?_ _
              go_wp2_with fail
              go_ret
              exact ⟨rfl, B9.out⟩
        · have hkn : k < n2 ∧ k < 20 := by have := HBB.out; simp at this; exact this
          obtain ⟨hlt1, hlt2⟩ := hkn
          clear HBB
          have R2 := Sl.below HR2.out (S7.out.belowD LT.out WD.out BL.out).bl (Nat.le_refl _)
          obtain ⟨bb, off, rfl⟩ := Sl.addr R2 (by omega)
          have xc := Sl.at_ R2 (j := k) hlt1
          clear R2
          have EN0 := fun w => entry_any (g2 k) w
          obtain ⟨en, hen⟩ : ∃ en, en = enN (g2 k) := ⟨_, rfl⟩
          have HE := hid ((HG.out k).trans hen.symm)
          rw [← hen] at EN0
          clear hen
          obtain ⟨e1, e2, e3, e4, e5, e6, e7⟩ := en
          unfold enV at EN0
          simp only at EN0
          have EN := hid EN0
          clear EN0
          go_wp2_with fail
          clear xc
          refine (EN.out _).mono ?_
          rintro x w8 ⟨rfl, hb⟩
          have HO4 := hid (HO.out.keep hb (Nat.le_refl _))
          have B4 := hid (BL.out.trans (hb.mono LD.out))
          have L4 := hid (Nat.le_trans LD.out hb.size)
          clear hb HO EN BL
          go_wp2_with (at_builtin; refine wp_app_e rfl (.tmp 83) (.tmp 89) rfl D _ k GG rfl (Ow.alloc HO4.out _) w8.heap.size 1 rfl (by rw [HE.out]; exact Ce.made rfl) (by omega) (by have := L4.out; simp; omega) ?_; intro A' d' w9 hown hbel hgr; have HO5 := hid hown; have B5 := hid hbel; clear hown hbel hgr)
          have B6 := hid ((B4.out.alloc L4.out (.cells _ _)).trans B5.out)
          go_roundw
          case rel => exact ⟨k + 1, A', d', by omega, by omega, rfl, by go_num, HO5.out, B6.out⟩
          case measure => simp [intOf]; omega

set_option maxRecDepth 100000 in
theorem lifted (os : Os) (started : os.Started) (H : Type) (enc : TypeId × Value → H) :
    ReturnsInHanded {} Try.checked os 3 .any (Rows.headErrsSpec.pre6 enc Try.prog Try.f3 [] false) (Rows.headErrsSpec.post enc Try.prog Try.f3 false true false false) :=
  law_step (s := Rows.headErrsSpec) started (by kernel_rfl) Try.func3
    (ChangeSpec.witness6 (s := Rows.headErrsSpec) (enc := enc) (C := Try.checked) false ⟨#[], #[.slice none 0 0, .int .i64 0, .slice none 0 0, .int .i64 0], []⟩ 8 (by kernel_rfl) (by kernel_rfl) (by kernel_rfl) (by kernel_rfl))
    rfl (by rw [Try.params3]; decide +kernel) rfl Try.underlying4
    (fun ds h => by
      rw [Try.params3] at h
      match ds, h with
      | [_, _, _, _], _ => rfl)
    (fun W base args ds ps hval hA hsz => by
      rw [Try.params3] at hA hval hsz
      obtain ⟨v0, vs0, d0, ds0, p0, q0, hargs, rfl, rfl, h0, r0⟩ := trodAll_cons hA
      obtain ⟨v1, vs1, d1, ds1, p1, q1, rfl, rfl, rfl, h1, r1⟩ := trodAll_cons r0
      obtain ⟨v2, vs2, d2, ds2, p2, q2, rfl, rfl, rfl, h2, r2⟩ := trodAll_cons r1
      obtain ⟨v3, vs3, d3, ds3, p3, q3, rfl, rfl, rfl, h3, r3⟩ := trodAll_cons r2
      obtain ⟨rfl, rfl, rfl⟩ := trodAll_nil r3
      obtain rfl : args = #[v0, v1, v2, v3] := by cases args; simp_all
      obtain ⟨A0, n0, c0, g0, rfl, hn0, hc0, hs0, hw0, hl0, hd0⟩ := open_row Try.underlying22 Try.underlying3 (by kernel_rfl) (hval 0 22 v0 rfl rfl) h0
      have re0 : c0 * 8 ≤ 140737488351232 := by
        rcases hd0 with ⟨_, h0⟩ | ⟨xs, ys, h1, h2⟩
        · omega
        · have := sized_slice hsz (j := 0) (t := 22) (e := 3) rfl (by rw [h1]; rfl) Try.underlying22
          rw [h2, show Try.prog.bytesOf 3 = 8 from by kernel_rfl] at this
          simpa [reachBytes] using this
      obtain ⟨a1, rfl, rfl, rfl, w1⟩ := open_int Try.underlying3 (hval 1 3 v1 rfl rfl) h1
      obtain ⟨A2, n2, c2, g2, rfl, hn2, hc2, hs2, hw2, hl2, hd2⟩ := open_row Try.underlying22 Try.underlying3 (by kernel_rfl) (hval 2 22 v2 rfl rfl) h2
      have re2 : c2 * 8 ≤ 140737488351232 := by
        rcases hd2 with ⟨_, h0⟩ | ⟨xs, ys, h1, h2⟩
        · omega
        · have := sized_slice hsz (j := 2) (t := 22) (e := 3) rfl (by rw [h1]; rfl) Try.underlying22
          rw [h2, show Try.prog.bytesOf 3 = 8 from by kernel_rfl] at this
          simpa [reachBytes] using this
      obtain ⟨a3, rfl, rfl, rfl, w3⟩ := open_int Try.underlying3 (hval 3 3 v3 rfl rfl) h3
      exact walk W A0 n0 c0 g0 hn0 hc0 hs0 (fun j => bounds_i64 (hw0 j)) hl0 re0 a1 (bounds_i64 w1) A2 n2 c2 g2 hn2 hc2 hs2 (fun j => bounds_i64 (hw2 j)) hl2 re2 a3 (bounds_i64 w3))

theorem proved : Rows.HeadErrsSaid :=
  OpenClaim.holds_of_wide 3 Try.f3 rfl rfl rfl rfl rfl rfl rfl ⟨rfl, rfl, rfl, rfl, rfl⟩ rfl rfl rfl rfl rfl (by kernel_rfl) Try.func3 (by kernel_rfl)
    (of_decide_eq_true (by kernel_rfl)) (by unfold Func.isWrapper; first | (rw [if_pos (by decide +kernel)]; kernel_rfl) | (rw [if_neg (by decide +kernel)]; exact ⟨rfl, rfl⟩))
    (fun os started H enc _ => lifted os started H enc)
end Go.Proofs.Ytppcanaelagfmaa.headErrs
