/- roundhouselaw12.YardApart answers true for any number, every row; no condition. -/
import Derived.Test.YtnnilkdlpampdaaYdWays
import Derived.BigQuiet
import Derived.Deep.RegionHeld3
import Derived.Deep.Cut
import Derived.Deep.CutRange
import Derived.IntWalk
namespace Go.Proofs.Ytnnilkdlpampdaa.yardApart
set_option linter.unusedVariables false
set_option linter.unusedSimpArgs false
open Go.RowKit Go.ChangeShapes Go.WideShapes Go.ChangeAt
theorem u64_in (j : Nat) (h : j ≤ 1099511627776) : IntKind.u64.wrap (j : Int) = (j : Int) := by
  have : (2 : Int) ^ 64 = 18446744073709551616 := by decide
  unfold IntKind.wrap IntKind.bits IntKind.signed
  simp
  omega
theorem se_one {w : World} {T : TypeId} (e : En) : Se (w.alloc (.cells (enL e).toArray T)) (some ⟨w.heap.size, 0, none⟩) 1 (fun _ => e) := by
  refine Sl.mk (by simp) fun j hj => ?_
  rw [Nat.zero_add, cell_of_row _ w.heap.size j (enL e).toArray T (0, 0) (heap_alloc_new w _), List.getElem?_toArray]
  rw [show j % 7 = j by omega]; exact enL_at e j (by omega)
theorem tm_nat (x n : Nat) : Int.tmod (x : Int) (n : Int) = ((x % n : Nat) : Int) := rfl
theorem td_nat (x n : Nat) : Int.tdiv (x : Int) (n : Int) = ((x / n : Nat) : Int) := rfl
attribute [local irreducible] FA FL
set_option maxRecDepth 100000 in
set_option maxHeartbeats 32000000 in
theorem walk (W : World) (a0 : Int) (r_a0 : -9223372036854775808 ≤ a0 ∧ a0 ≤ 9223372036854775807) (A1 : Option Addr) (n1 c1 : Nat) (g1 : Nat → Int) (hn1 : n1 ≤ c1) (hc1 : c1 ≤ maxLen) (hr1 : Is W A1 n1 g1) (hg1 : IsI g1) (hl1 : ∀ ad, A1 = some ad → 0 < n1 → ad.block < W.heap.size) (re1 : c1 * 8 ≤ 140737488351232) :
    Calls Try.prog 3 #[.int .i64 a0, .slice A1 n1 c1] W fun e w' => e = .returned (.bool true) ∧ Below W.heap.size W w' := by
  have hr2 := hr1
  have HG2 := hid hg1
  have hl2 := hl1
  unfold maxLen at hc1
  have hnm : (n1 : Int) ≤ 9223372036854775807 := by have := hn1; omega
  have HR2 := hid (show ∀ (w : World), Below W.heap.size W w → Is w A1 n1 g1 from fun w h => hr2.below h (Nat.le_refl _))
  have HL := hid (show ∀ ad, A1 = some ad → 0 < n1 → ad.block < W.heap.size from hl1)
  clear hr1 hr2 hl1 hl2 hg1 re1
  obtain ⟨p, hp⟩ : ∃ p, p = mkP (fun _ => 0) 0 := ⟨_, rfl⟩
  have GP : good p ∧ p.v ≤ 30 := by rw [hp]; exact good_mk _ _ (by omega)
  have PI : Pinv p 30 := by rw [hp]; exact (mkP_inv _ _).mono (by omega)
  have MK := hid (fun (w : World) => (show Calls Try.prog 9 #[.slice none 0 0, .int .i64 0] w fun x w' => x = .returned (.agg (FA 330 (pc p))) ∧ Below w.heap.size w w' from by rw [hp]; exact make_fa w none 0 0 (fun _ => 0) (fun h => absurd h (by omega)) (fun ad e => by cases e) (by omega) 0 (by omega)))
  clear hp
  have hv0 := GP.1.v
  have hv30 := GP.2
  obtain ⟨x0, hx0⟩ : ∃ x : Nat, (x : Int) = wi a0 5 := ⟨(wi a0 5).toNat, by have := wi_bd a0 5 (by omega); omega⟩
  have bx0 := wi_bd a0 5 (by omega)
  rw [← hx0] at bx0
  have Wx0 := hid (fun w => re_i64 (within_any a0 5 w (by omega) (by omega)) hx0.symm)
  clear hx0
  obtain ⟨bx01, bx02⟩ := bx0
  obtain ⟨u, hu⟩ : ∃ u : Nat, u = 1 + x0 := ⟨_, rfl⟩
  have hu1 : 1 ≤ u := by omega
  have hu2 : u ≤ 5 := by omega
  have HUX := hid (show (1 : Int) + x0 = u from by omega)
  clear hu
  have F0 := hid (show Fit (newY p u) 30 from Fit.new GP.1 ⟨hu1, by omega⟩ hv30)
  clear GP
  have S0 : Hid (HS [] W W []) := hid HS.start
  go_enter Try.func3, Try.ntmps3
  go_wp2_with fail
  refine (yknown_any _).mono ?_
  rintro x w1 ⟨rfl, hB⟩
  have S1 := hid (S0.out.below hB)
  clear hB S0
  go_wp2_with fail
  refine (MK.out _).mono ?_
  rintro x w2 ⟨rfl, hb⟩
  have S2 := hid (S1.out.below hb)
  clear hb S1 MK
  go_simp
  go_upto_region 4 with (first | ((with_reducible refine wl_id ?_); refine wl_ow rfl (ow_alloc rfl (zpl_fa _) (by omega) S2.out ?_); intro P w_ hZ _; have SA := hid hZ; clear hZ) | ((with_reducible refine wl_id ?_); refine wl_ow rfl (ow_store (A := []) 0 330 (pc p) (pc p) rfl rfl rfl SA.out (by omega) (fun j hj => patch_all _ _ _ j hj) info_pl (pc_one _) ?_); intro w_ hZ; have S3 := hid hZ; clear hZ))
  go_wp2_with fail
  refine (Wx0.out _).mono ?_
  rintro x w_ ⟨rfl, rfl⟩
  go_simp
  go_upto_region 5 with (fail)
  rw [HUX.out]
  go_wp2_with ((with_reducible refine wl_id ?_); refine wl_ow rfl (ow_load 0 rfl 0 330 (pc p) rfl rfl S3.out (by omega) (fun j hj => by rw [Nat.zero_add]) Try.underlying33 rfl info_pl ?_))
  refine (ya_new S3.out p u ⟨hu1, by omega⟩).mono ?_
  rintro x w4 ⟨D, rfl, hY⟩
  have Y0 := hid hY
  clear hY S3
  go_simp
  go_wp2_with fail
  have PI0 := hid PI
  clear PI
  go_loopw [9] (fun i wr => ∃ (k : Nat) (y : Yd) (K : Int), k ≤ n1 ∧ k ≤ 150 ∧ i = .int .i64 (k : Int) ∧ YA [] W wr D y [thB P 330 (pc p)] (16 + k) ∧ Fit y (30 + 2 * k) ∧ y.h.un = u ∧ y.ns.length ≤ 20 * k ∧ y.h.q.length ≤ k ∧ Pinv y.h.ah (30 + k)) (fun i _ => 150 - (intOf i).toNat)
  case atStart => exact ⟨0, newY p u, 0, by omega, by omega, rfl, Y0.out, F0.out, rfl, Nat.le_refl _, Nat.le_refl _, PI0.out⟩
  case round =>
    clear Y0 F0
    obtain ⟨k, y, K_, hk, hk150, rfl, hY, hF, hun, hns, hq, hpi⟩ := hrel
    have Y1 := hid hY
    have FT := hid hF
    have UN := hid hun
    have NS := hid hns
    have QL := hid hq
    have PI1 := hid hpi
    clear hY hF hun hns hq hpi
    obtain ⟨m, hm⟩ : ∃ m, m = y.ns.length := ⟨_, rfl⟩
    have HM := hid hm
    clear hm
    have NT := hid (ya_notes Y1.out)
    rw [← HM.out] at NT
    obtain ⟨bb, hbb⟩ : ∃ bb : Bool, bb = (decide (k < n1) && decide (k < 150) && decide (m < 200)) := ⟨_, rfl⟩
    have HBB := hid hbb
    clear hbb
    go_upto_region 9 with (fail)
    go_cut [45] from 33 to 45 (fun x wx => x = .bool bb ∧ wr = wx)
    case first =>
      by_cases h1 : (k : Int) < n1
      · by_cases h2 : (k : Int) < 150
        · go_wp2_with fail
          refine NT.out.mono ?_
          rintro x w' ⟨rfl, rfl⟩
          go_simp
          by_cases h3 : (m : Int) < 200
          · go_wp2_with fail
            go_meet
            exact ⟨by rw [HBB.out]; simp; omega, rfl⟩
          · go_wp2_with fail
            go_meet
            exact ⟨by rw [HBB.out]; simp; omega, rfl⟩
        · go_wp2_with fail
          go_meet
          exact ⟨by rw [HBB.out]; simp; omega, rfl⟩
      · go_wp2_with fail
        go_meet
        exact ⟨by rw [HBB.out]; simp; omega, rfl⟩
    case rest =>
      obtain ⟨rfl, rfl⟩ := hcut
      cases bb
      · clear HBB
        go_wp2_with fail
        go_ret
        exact ⟨rfl, Y1.out.ch.below (by simp) (Nat.le_refl _)⟩
      · have hkn : k < n1 ∧ k < 150 ∧ m < 200 := by have := HBB.out; simp at this; omega
        obtain ⟨hl1, hl2, hl3⟩ := hkn
        clear HBB NT
        have i1 : (k : Int) < n1 := by omega
        have i2 : (k : Int) < 150 := by omega
        obtain ⟨bb, off, rfl⟩ := Sl.addr (HR2.out W (Below.refl _ _)) (by omega)
        have RR := hid (Sl.at_ (show Sl wr (some ⟨bb, off, none⟩) n1 (fun j => .int .i64 (g1 j)) from HR2.out wr (Y1.out.ch.below (by simp) (Nat.le_refl _))) (j := k) hl1)
        obtain ⟨gk, hgk⟩ : ∃ x, x = g1 k := ⟨_, rfl⟩
        have hgb := HG2.out k
        rw [← hgk] at RR hgb
        clear hgk
        obtain ⟨x, hx⟩ : ∃ x : Nat, (x : Int) = wi gk 1099511627776 := ⟨(wi gk 1099511627776).toNat, by have := wi_bd gk 1099511627776 (by omega); omega⟩
        have bx := wi_bd gk 1099511627776 (by omega)
        rw [← hx] at bx
        have Wx := hid (fun w => re_i64 (within_any gk 1099511627776 w (by omega) (by omega)) hx.symm)
        clear hx
        obtain ⟨bx1, bx2⟩ := bx
        have i0 : (0 : Int) ≤ k := by omega
        have cgk := RR.out
        go_wp2_with fail
        clear cgk
        refine (Wx.out _).mono ?_
        rintro x w_ ⟨rfl, rfl⟩
        go_simp
        have UL := hid (show y.ns.length < 200 from by rw [← HM.out]; exact hl3)
        have UK := hid (show y.h.un ≤ 16 from FT.out.2.1.2)
        have NT := hid (ya_notes Y1.out)
        rw [← HM.out] at NT
        have AS := hid (ap_same Y1.out FT.out UN.out NS.out QL.out PI1.out)
        obtain ⟨r, hr⟩ : ∃ r : Nat, r = x % 8 := ⟨_, rfl⟩
        have xr : (x : Int) % 8 = (r : Int) := by omega
        have hr8 : r < 8 := by omega
        have xr2 : Int.tmod (x : Int) 8 = (r : Int) := by rw [hr]; exact tm_nat x 8
        go_upto_region 12 with (fail)
        apply wp_region_lit
        refine wl_val (v := ?_) rfl ?_ ?_; rotate_left; (focus ( go_simp; (try with_reducible rfl))); (try simp only [Act.put, List.setIfInBounds_toArray, List.set_cons_zero, List.set_cons_succ])
        refine wl_val (v := .int .i64 (r : Int)) rfl (by first | (go_simp; done) | (simp [go_sem, execOp, Act.eval, xr2]; done)) ?_
        try simp only [Act.put, List.setIfInBounds_toArray, List.set_cons_zero, List.set_cons_succ]
        refine end_then ?_
        apply_assumption
        clear hr xr xr2
        go_cut [] from 53 to 110 (fun wx => AP W D [thB P 330 (pc p)] u (k + 1) wx)
        case first =>
          have hcase : r = 0 ∨ r = 1 ∨ r = 2 ∨ r = 3 ∨ 4 ≤ r := by omega
          rcases hcase with h | h | h | h | h
          · subst h
            have xu : IntKind.u64.wrap (x : Int) = x := u64_in x (by omega)
            go_wp2_with fail
            refine (ya_wish1 Y1.out ((Below.refl _ _).alloc (Nat.le_refl _) _) ⟨6, 0, 0, 0, 0, ⟨x, 0⟩⟩ _ (Nat.le_refl _) (se_one ⟨6, 0, 0, 0, 0, ⟨x, 0⟩⟩) (by have := QL.out; omega) (30 + k) PI1.out (by omega)).mono ?_
            rintro e_ w5 ⟨er, a, q, rfl, hY, hq, hp⟩
            have A9 := hid (ap_wish hY FT.out UN.out NS.out QL.out hq hp)
            clear hY hq hp
            go_simp
            go_wp2_with fail
            go_meet
            exact A9.out
          · subst h
            go_wp2_with fail
            refine (ya_tick Y1.out FT.out (by omega) (by have := UL.out; omega)).mono ?_
            rintro e_ w5 ⟨rfl, hY⟩
            have A9 := hid (ap_tick hY FT.out UN.out NS.out QL.out PI1.out)
            clear hY
            go_simp
            go_wp2_with fail
            go_meet
            exact A9.out
          · subst h
            go_wp2_with fail
            refine (ya_tick Y1.out FT.out (by omega) (by have := UL.out; omega)).mono ?_
            rintro e_ w5 ⟨rfl, hY⟩
            have A9 := hid (ap_tick hY FT.out UN.out NS.out QL.out PI1.out)
            clear hY
            go_simp
            go_wp2_with fail
            go_meet
            exact A9.out
          · subst h
            obtain ⟨x8, hx8⟩ : ∃ x8 : Nat, x8 = x / 8 := ⟨_, rfl⟩
            have d1 : (x : Int) / 8 = (x8 : Int) := by omega
            have e1 : Int.tdiv (x : Int) 8 = (x8 : Int) := by rw [hx8]; exact td_nat x 8
            obtain ⟨r2, hr2⟩ : ∃ r2 : Nat, r2 = x8 % 4 := ⟨_, rfl⟩
            have d2 : (x8 : Int) % 4 = (r2 : Int) := by omega
            have e2 : Int.tmod (x8 : Int) 4 = (r2 : Int) := by rw [hr2]; exact tm_nat x8 4
            obtain ⟨x32, hx32⟩ : ∃ x32 : Nat, x32 = x / 32 := ⟨_, rfl⟩
            have d3 : (x : Int) / 32 = (x32 : Int) := by omega
            have e3 : Int.tdiv (x : Int) 32 = (x32 : Int) := by rw [hx32]; exact td_nat x 32
            have hr24 : r2 < 4 := by omega
            clear hx8 hx32 hr2
            have hc2 : r2 = 0 ∨ r2 = 1 ∨ 2 ≤ r2 := by omega
            rcases hc2 with h | h | h
            · subst h
              obtain ⟨j, hj⟩ : ∃ j : Nat, j = x32 % u := ⟨_, rfl⟩
              have d4 : (x32 : Int) % (u : Int) = (j : Int) := by rw [hj]; exact (Int.natCast_emod _ _).symm
              have e4 : Int.tmod (x32 : Int) (u : Int) = (j : Int) := by rw [hj]; exact tm_nat x32 u
              have hju : j < u := by rw [hj]; exact Nat.mod_lt _ (by omega)
              clear hj
              have nu : ¬ (u : Int) = 0 := by omega
              go_wp2_with fail
              refine (ya_crash Y1.out FT.out (by omega) j (by rw [UN.out]; exact hju)).mono ?_
              rintro e_ w5 ⟨rfl, hY⟩
              have A9 := hid (ap_crash (by rw [UN.out]; exact hju) hY FT.out UN.out NS.out QL.out PI1.out)
              clear hY
              go_simp
              go_wp2_with fail
              go_meet
              exact A9.out
            · subst h
              go_wp2_with fail
              refine NT.out.mono ?_
              rintro e_ w5 ⟨rfl, rfl⟩
              obtain ⟨mb, hmb⟩ : ∃ mb : Bool, decide ((0 : Int) < (m : Int)) = mb := ⟨_, rfl⟩
              go_simp
              cases mb
              · have hm0 : m = 0 := by have := of_decide_eq_false hmb; omega
                subst hm0
                go_wp2_with fail
                go_meet
                exact AS.out
              · have hm0 : 0 < m := by have := of_decide_eq_true hmb; omega
                obtain ⟨j, hj⟩ : ∃ j : Nat, j = x32 % m := ⟨_, rfl⟩
                have d4 : (x32 : Int) % (m : Int) = (j : Int) := by rw [hj]; exact (Int.natCast_emod _ _).symm
                have e4 : Int.tmod (x32 : Int) (m : Int) = (j : Int) := by rw [hj]; exact tm_nat x32 m
                have hju : j < m := by rw [hj]; exact Nat.mod_lt _ (by omega)
                clear hj
                have nu : ¬ (m : Int) = 0 := by omega
                go_wp2_with fail
                refine NT.out.mono ?_
                rintro e_ w5 ⟨rfl, rfl⟩
                go_simp
                go_wp2_with fail
                refine (ya_lose Y1.out j (by rw [← HM.out]; exact hju)).mono ?_
                rintro e_ w5 ⟨rfl, hY⟩
                have A9 := hid (ap_lose hY FT.out UN.out NS.out QL.out PI1.out)
                clear hY
                go_simp
                go_wp2_with fail
                go_meet
                exact A9.out
            · have q0 : ((r2 : Int) == 0) = false := by simp; omega
              have q1 : ((r2 : Int) == 1) = false := by simp; omega
              go_wp2_with fail
              go_meet
              exact AS.out
          · have q0 : ((r : Int) == 0) = false := by simp; omega
            have q1 : ((r : Int) == 1) = false := by simp; omega
            have q2 : ((r : Int) == 2) = false := by simp; omega
            have q3 : ((r : Int) == 3) = false := by simp; omega
            obtain ⟨x8, hx8⟩ : ∃ x8 : Nat, x8 = x / 8 := ⟨_, rfl⟩
            have d1 : (x : Int) / 8 = (x8 : Int) := by omega
            have e1 : Int.tdiv (x : Int) 8 = (x8 : Int) := by rw [hx8]; exact td_nat x 8
            obtain ⟨r2, hr2⟩ : ∃ r2 : Nat, r2 = x8 % 4 := ⟨_, rfl⟩
            have d2 : (x8 : Int) % 4 = (r2 : Int) := by omega
            have e2 : Int.tmod (x8 : Int) 4 = (r2 : Int) := by rw [hr2]; exact tm_nat x8 4
            obtain ⟨x32, hx32⟩ : ∃ x32 : Nat, x32 = x / 32 := ⟨_, rfl⟩
            have d3 : (x : Int) / 32 = (x32 : Int) := by omega
            have e3 : Int.tdiv (x : Int) 32 = (x32 : Int) := by rw [hx32]; exact td_nat x 32
            have hr24 : r2 < 4 := by omega
            clear hx8 hx32 hr2
            go_wp2_with fail
            refine NT.out.mono ?_
            rintro e_ w5 ⟨rfl, rfl⟩
            obtain ⟨mb, hmb⟩ : ∃ mb : Bool, decide ((0 : Int) < (m : Int)) = mb := ⟨_, rfl⟩
            go_simp
            cases mb
            · have hm0 : m = 0 := by have := of_decide_eq_false hmb; omega
              subst hm0
              go_wp2_with fail
              go_meet
              exact AS.out
            · have hm0 : 0 < m := by have := of_decide_eq_true hmb; omega
              obtain ⟨j, hj⟩ : ∃ j : Nat, j = x32 % m := ⟨_, rfl⟩
              have d4 : (x32 : Int) % (m : Int) = (j : Int) := by rw [hj]; exact (Int.natCast_emod _ _).symm
              have e4 : Int.tmod (x32 : Int) (m : Int) = (j : Int) := by rw [hj]; exact tm_nat x32 m
              have hju : j < m := by rw [hj]; exact Nat.mod_lt _ (by omega)
              clear hj
              have nu : ¬ (m : Int) = 0 := by omega
              go_wp2_with fail
              refine NT.out.mono ?_
              rintro e_ w5 ⟨rfl, rfl⟩
              go_simp
              go_wp2_with fail
              refine (ya_del Y1.out FT.out (by omega) (by omega) (by have := UL.out; omega) j (by rw [← HM.out]; exact hju) _).mono ?_
              rintro e_ w5 ⟨rfl, hY⟩
              have A9 := hid (ap_del hY FT.out UN.out NS.out QL.out PI1.out)
              clear hY
              go_simp
              go_wp2_with fail
              go_meet
              exact A9.out
        case rest =>
          clear Y1 FT NS QL PI1 NT AS UL UK HM hl3
          obtain ⟨y2, hY, hF, hu_, hns, hq, hpi⟩ := hcut
          have Y2 := hid hY
          have F2 := hid hF
          have U2 := hid hu_
          have N2 := hid hns
          have Q2 := hid hq
          have P2 := hid hpi
          clear hY hF hu_ hns hq hpi UN
          go_wp2_with fail
          go_loopw [11] (fun i wx => ∃ j : Nat, j ≤ u ∧ i = .int .i64 (j : Int) ∧ YA [] W wx D y2 [thB P 330 (pc p)] (16 + (k + 1))) (fun i _ => u - (intOf i).toNat)
          case atStart => exact ⟨0, Nat.zero_le _, rfl, Y2.out⟩
          case round =>
            clear Y2
            obtain ⟨j, hj, rfl, hY⟩ := hrel
            have Y3 := hid hY
            clear hY
            by_cases hlt : (j : Int) < u
            · have hju : j < u := by omega
              have AP_ := hid (fun (h : (y2.uf j).up = true) => F2.out.1.apart (by rw [U2.out]; exact hju) h)
              have VE := hid (ya_ver Y3.out j (by rw [U2.out]; exact hju))
              have PV := F2.out.1.1.v
              have PK := F2.out.2.2.1
              have YB := hid (fun (w' : World) (hb : Below wr.heap.size wr w') => Y3.out.below hb)
              obtain ⟨pl, hpl⟩ : ∃ pl, pl = y2.h.pl := ⟨_, rfl⟩
              have PP := hid (fun (w' : World) (h' : YA [] W w' D y2 [thB P 330 (pc p)] (16 + (k + 1))) => (show Calls Try.prog 19 #[.pointer (some ⟨D.Y, 0, none⟩)] w' fun x w'' => x = .returned (.agg (FA 330 (pc pl))) ∧ YA [] W w'' D y2 [thB P 330 (pc p)] (16 + (k + 1)) from by rw [hpl]; exact ya_pool h'))
              have fpl := fun w => fld_pl pl w
              rw [← hpl] at AP_ PV PK
              clear hpl
              obtain ⟨v0, hv0'⟩ : ∃ v0, v0 = pl.v := ⟨_, rfl⟩
              rw [← hv0'] at AP_ PV PK
              simp only [← hv0'] at fpl
              have FPL := hid fpl
              clear fpl hv0'
              have xw : IntKind.i64.wrap (v0 - 1) = v0 - 1 := IntWalk.i64_in _ (by omega)
              have XW := hid xw
              clear xw
              cases hup : (y2.uf j).up
              · rw [hup] at VE AP_
                clear hup
                simp only [Bool.false_eq_true, if_false] at VE
                clear AP_
                go_wp2_with fail
                refine VE.out.mono ?_
                rintro e_ w5 ⟨rfl, hb⟩
                have Y4 := hid (YB.out _ hb)
                clear hb VE YB Y3
                go_simp
                go_wp2_with fail
                refine (PP.out _ Y4.out).mono ?_
                rintro e_ w6 ⟨rfl, hY⟩
                have Y5 := hid hY
                clear hY Y4
                have fpl := FPL.out w6
                go_simp
                go_wp2_with fail
                go_roundw
                case rel => exact ⟨j + 1, by omega, by go_num, Y5.out⟩
                case measure => simp [intOf]; omega
              · rw [hup] at VE AP_
                clear hup
                simp only [if_true] at VE
                have hv9 := AP_.out rfl
                obtain ⟨v9, hv9'⟩ : ∃ v9, v9 = (y2.uf j).p.v := ⟨_, rfl⟩
                rw [← hv9'] at VE hv9
                clear hv9'
                clear AP_
                go_wp2_with fail
                refine VE.out.mono ?_
                rintro e_ w5 ⟨rfl, hb⟩
                have Y4 := hid (YB.out _ hb)
                clear hb VE YB Y3
                go_simp
                go_wp2_with fail
                refine (PP.out _ Y4.out).mono ?_
                rintro e_ w6 ⟨rfl, hY⟩
                have Y5 := hid hY
                clear hY Y4
                have fpl := FPL.out w6
                go_simp
                rcases hv9 with hv9 | hv9
                · have n0 : (v9 != v0) = false := by simp [hv9]
                  go_wp2_with fail
                  go_roundw
                  case rel => exact ⟨j + 1, by omega, by go_num, Y5.out⟩
                  case measure => simp [intOf]; omega
                · have n0 : (v9 != v0) = true := by simp; omega
                  have xw := XW.out
                  have n1 : (v9 != v0 - 1) = false := by simp [hv9]
                  clear hv9
                  go_wp2_with fail
                  go_roundw
                  case rel => exact ⟨j + 1, by omega, by go_num, Y5.out⟩
                  case measure => simp [intOf]; omega
            · go_wp2_with fail
              go_roundw
              case rel => exact ⟨k + 1, y2, 0, by omega, by omega, by go_num, Y3.out, by exact_mod_cast F2.out, U2.out, N2.out, Q2.out, by exact_mod_cast P2.out⟩
              case measure => simp [intOf]; omega

set_option maxRecDepth 100000 in
theorem lifted (os : Os) (started : os.Started) (H : Type) (enc : TypeId × Value → H) :
    ReturnsInHanded {} Try.checked os 3 .any (Rows.yardApartSpec.pre6 enc Try.prog Try.f3 [] false) (Rows.yardApartSpec.post enc Try.prog Try.f3 false true false false) :=
  law_step (s := Rows.yardApartSpec) started (by kernel_rfl) Try.func3
    (ChangeSpec.witness6 (s := Rows.yardApartSpec) (enc := enc) (C := Try.checked) false ⟨#[], #[.int .i64 0, .slice none 0 0], []⟩ 8 (by kernel_rfl) (by kernel_rfl) (by kernel_rfl) (by kernel_rfl))
    rfl (by rw [Try.params3]; decide +kernel) rfl Try.underlying4
    (fun ds h => by
      rw [Try.params3] at h
      match ds, h with
      | [_, _], _ => rfl)
    (fun W base args ds ps hval hA hsz => by
      rw [Try.params3] at hA hval hsz
      obtain ⟨v0, vs0, d0, ds0, p0, q0, hargs, rfl, rfl, h0, r0⟩ := trodAll_cons hA
      obtain ⟨v1, vs1, d1, ds1, p1, q1, rfl, rfl, rfl, h1, r1⟩ := trodAll_cons r0
      obtain ⟨rfl, rfl, rfl⟩ := trodAll_nil r1
      obtain rfl : args = #[v0, v1] := by cases args; simp_all
      obtain ⟨a0, rfl, rfl, rfl, w0⟩ := open_int Try.underlying3 (hval 0 3 v0 rfl rfl) h0
      obtain ⟨A1, n1, c1, g1, rfl, hn1, hc1, hs1, hw1, hl1, hd1⟩ := open_row Try.underlying22 Try.underlying3 (by kernel_rfl) (hval 1 22 v1 rfl rfl) h1
      have re1 : c1 * 8 ≤ 140737488351232 := by
        rcases hd1 with ⟨_, h0⟩ | ⟨xs, ys, h1, h2⟩
        · omega
        · have := sized_slice hsz (j := 1) (t := 22) (e := 3) rfl (by rw [h1]; rfl) Try.underlying22
          rw [h2, show Try.prog.bytesOf 3 = 8 from by kernel_rfl] at this
          simpa [reachBytes] using this
      exact walk W a0 (bounds_i64 w0) A1 n1 c1 g1 hn1 hc1 hs1 (fun j => bounds_i64 (hw1 j)) hl1 re1)

theorem proved : Rows.YardApartSaid :=
  OpenClaim.holds_of_wide 3 Try.f3 rfl rfl rfl rfl rfl rfl rfl ⟨rfl, rfl, rfl, rfl, rfl⟩ rfl rfl rfl rfl rfl (by kernel_rfl) Try.func3 (by kernel_rfl)
    (of_decide_eq_true (by kernel_rfl)) (by unfold Func.isWrapper; first | (rw [if_pos (by decide +kernel)]; kernel_rfl) | (rw [if_neg (by decide +kernel)]; exact ⟨rfl, rfl⟩))
    (fun os started H enc _ => lifted os started H enc)
end Go.Proofs.Ytnnilkdlpampdaa.yardApart
