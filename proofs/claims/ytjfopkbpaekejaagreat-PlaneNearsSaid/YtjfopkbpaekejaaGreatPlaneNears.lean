/- roundhouselaw9.PlaneNears answers true for every two rows, any two numbers; no condition. -/
import Derived.Test.YtjfopkbpaekejaaGreatGa
import Derived.Test.YtjfopkbpaekejaaGreatPlKn9
import Derived.Test.YtjfopkbpaekejaaGreatPlNeM
import Derived.Deep.LoopGhost
import Derived.Deep.CutRange
import Derived.Deep.CutBlock
import Derived.IntWalk
import Derived.BigQuiet
import Derived.Deep.RegionHeld3
import Derived.Deep.Cut
namespace Go.Proofs.YtjfopkbpaekejaaGreat.planeNears
set_option linter.unusedVariables false
set_option linter.unusedSimpArgs false
open Go.RowKit Go.ChangeShapes Go.WideShapes Go.ChangeAt

attribute [local irreducible] FA FL mkBO
theorem nears_end {k n2 : Nat} {b : Bool} (h : false = (decide (k < n2) && decide (k < 10))) (hs : b = decide (0 < k)) (h1 : k ≤ n2) (h2 : k ≤ 10) : b = decide (0 < n2) := by
  have h3 : ¬ (k < n2 ∧ k < 10) := fun hh => by rw [decide_eq_true hh.1, decide_eq_true hh.2] at h; cases h
  rw [hs]
  by_cases h0 : 0 < n2
  · have : 0 < k := by omega
    simp [h0, this]
  · have : ¬ 0 < k := by omega
    simp [h0, this]
set_option maxRecDepth 100000 in
set_option maxHeartbeats 8000000 in
theorem walk (W : World) (A1 : Option Addr) (n1 c1 : Nat) (g1 : Nat → Int) (hn1 : n1 ≤ c1) (hc1 : c1 ≤ maxLen) (hr1 : Is W A1 n1 g1) (hg1 : IsI g1) (hl1 : ∀ ad, A1 = some ad → 0 < n1 → ad.block < W.heap.size) (re1 : c1 * 8 ≤ 140737488351232) (a0 : Int) (r_a0 : -9223372036854775808 ≤ a0 ∧ a0 ≤ 9223372036854775807) (A2 : Option Addr) (n2 c2 : Nat) (g2 : Nat → Int) (hn2 : n2 ≤ c2) (hc2 : c2 ≤ maxLen) (hr2 : Sl W A2 n2 (fun j => .int .u32 (g2 j))) (hg2 : ∀ j, 0 ≤ g2 j ∧ g2 j ≤ 4294967295) (hl2 : ∀ ad, A2 = some ad → 0 < n2 → ad.block < W.heap.size) (re2 : c2 * 4 ≤ 140737488351232) (b0 : Int) (r_b0 : -9223372036854775808 ≤ b0 ∧ b0 ≤ 9223372036854775807) :
    Calls Tryz.prog 6 #[.slice A1 n1 c1, .int .i64 a0, .slice A2 n2 c2, .int .i64 b0] W fun e w' => e = .returned (.bool true) ∧ Below W.heap.size W w' := by
  obtain ⟨p, hp⟩ : ∃ p, p = mkP g1 (min n1 60) := ⟨_, rfl⟩
  have HPI := hid (show Pinv p 60 from by rw [hp]; exact (mkP_inv g1 _).mono (by omega))
  have HPC := hid (show p.a = 10 ∧ p.p = 80 from by rw [hp]; exact mkP_ap g1 _)
  have HPT := hid (show Pt p from by rw [hp]; exact mkP_pt g1 _ (by omega))
  have HUQ := hid (show Uq p from by rw [hp]; exact mk_uq g1 _)
  have HPW := hid (show Pw p from by rw [hp]; exact mk_pw g1 _)
  have MK := hid (fun (w : World) (hb : Below W.heap.size W w) => (show Calls Tryz.prog 8 #[.slice A1 n1 c1, .int .i64 60] w fun x w' => x = .returned (.agg (FA 330 (pc p))) ∧ Below w.heap.size w w' from by rw [hp]; exact mk_top W A1 n1 c1 g1 hr1 hl1 hn1 hc1 60 (by decide) w hb))
  clear hp hr1 hl1 hg1 re1 hn1 hc1
  have S0 : Hid (HS [] W W []) := hid HS.start
  have HR2 := hid (show ∀ (w : World), Below W.heap.size W w → Sl w A2 n2 (fun j => .int .u32 (g2 j)) from fun w h => Sl.below hr2 h (Nat.le_refl _))
  have HG2 := hid (fun j => (show U32 (g2 j) from by have := hg2 j; unfold U32; omega))
  unfold maxLen at hc2
  have hnm2 : (n2 : Int) ≤ 9223372036854775807 := by have := hn2; omega
  clear hr2 hg2 hl2 re2 hn2 hc2
  obtain ⟨s0, hs0⟩ : ∃ x, x = wi a0 6 := ⟨_, rfl⟩
  have bs0 := wi_bd a0 6 (by omega)
  rw [← hs0] at bs0
  have Ws0 := hid (fun w => re_i64 (within_any a0 6 w (by omega) (by omega)) hs0.symm)
  clear hs0
  obtain ⟨bs01, bs02⟩ := bs0
  obtain ⟨c, rfl⟩ : ∃ c : Nat, s0 = (c : Int) := ⟨s0.toNat, by omega⟩
  have hc : c < 64 := by omega
  have i0 : (0 : Int) ≤ c := by omega
  have i1 : (c : Int) < 64 := by omega
  have RTK := hid (fun (w : World) => (show Calls Tryz.prog 16 #[.agg #[.int .i64 (p.s c).st, .int .i64 (p.s c).ad, .int .i64 (p.s c).po, .int .i64 (p.s c).we, .int .i64 (p.s c).si]] w fun e w' => e = .returned (.bool (takesB (p.s c).st)) ∧ Below w.heap.size w w' from rtakes_any (p.s c) w))
  cases ht : takesB (p.s c).st
  · rw [ht] at RTK
    go_enter Tryz.func6, Tryz.ntmps6
    go_wp2_with fail
    refine (known_9 _).mono ?_
    rintro e w1 ⟨rfl, hb⟩
    have S1 : Hid (HS [] W w1 []) := hid (S0.out.below hb)
    clear hb S0
    go_simp
    go_wp2_with fail
    refine (MK.out _ S1.out.bl).mono ?_
    rintro e w2 ⟨rfl, hb⟩
    have S2 : Hid (HS [] W w2 []) := hid (S1.out.below hb)
    clear hb S1 MK
    go_simp
    go_upto_region 4 with (first | ((with_reducible refine wl_id ?_); refine wl_ow rfl (ow_alloc rfl (zpl2 _) (by omega) S2.out ?_); intro P w_ hZ _; have SA := hid hZ; clear hZ) | ((with_reducible refine wl_id ?_); refine wl_ow rfl (ow_store (A := []) 0 330 (pc p) (pc p) rfl rfl rfl SA.out (by omega) (fun j hj => patch_all _ _ _ j hj) info_pl2 (pc_one _) ?_); intro w_ hZ; have SX := hid hZ; clear hZ))
    have S3 : Hid (HS [] W _ [thB P 330 (pc p)]) := hid (SX.out)
    clear SX SA S2
    go_wp2_with fail
    refine (Ws0.out _).mono ?_
    rintro e w' ⟨rfl, rfl⟩
    go_wp2_with ((with_reducible refine wl_id ?_); refine wl_ow rfl (ow_load 0 rfl 0 330 (pc p) rfl rfl S3.out (by omega) (fun j hj => by rw [Nat.zero_add]) Tryz.underlying33 rfl info_pl2 ?_))
    refine (up_9 S3.out p HPW.out).mono ?_
    rintro e w3 ⟨pb, sb, wb, rfl, hne, hz⟩
    have S4 : Hid (HS [] W w3 [thS sb wb p, thB pb 130 (plf sb (fun _ => none)), thB P 330 (pc p)]) := hid (hz)
    clear hz S3
    have HNE := hid hne
    clear hne
    go_simp
    obtain ⟨q0, q1, q2, q3, q4⟩ := (pool_fb (S4.out.fb 2 rfl)).s5 c hc
    go_wp2_with fail
    refine (RTK.out _).mono ?_
    rintro e w4 ⟨rfl, hb⟩
    have S5 : Hid (HS [] W w4 [thS sb wb p, thB pb 130 (plf sb (fun _ => none)), thB P 330 (pc p)]) := hid (S4.out.below hb)
    clear hb S4 RTK q0 q1 q2 q3 q4
    go_simp
    go_wp2_with fail
    go_ret
    exact ⟨rfl, S5.out.bl⟩
  · rw [ht] at RTK
    have hsp := HPT.out.1 c hc
    have hfo : findO p (p.s c).ad (p.s c).po = some c := findO_tk HUQ.out hc (by unfold tkS; rw [ht]; simp)
    obtain ⟨y, hy⟩ : ∃ y, y = kyN b0 := ⟨_, rfl⟩
    have LK := hid (fun (w : World) => (show Calls Tryz.prog 23 #[.int .i64 b0] w fun e w' => e = .returned (.agg #[.int .u64 y.a, .int .u64 y.b]) ∧ Below w.heap.size w w' from by rw [hy]; exact lkey_any b0 w))
    clear hy
    obtain ⟨q, hq⟩ : ∃ q : Pl, q = ⟨p.v + 1, p.a, p.p, p.s, ⟨p.r.e + 1, p.r.c, p.r.n, y⟩⟩ := ⟨_, rfl⟩
    have hap := rot_ap p y
    rw [← hq] at hap
    have hpB := HPI.out.pb (by omega)
    have APQ := hid (fun (w : World) => (show Calls Tryz.prog 22 #[.agg (FA 330 (pc p)), .agg #[.int .i64 6, .int .i64 0, .int .i64 0, .int .i64 0, .int .i64 0, .int .u64 y.a, .int .u64 y.b]] w fun x w' => x = .returned (.tuple #[.agg (FA 330 (pc q)), .int .i64 0]) ∧ Below w.heap.size w w' from by have h := rapply_fb p ⟨6, 0, 0, 0, 0, y⟩ hpB w; rw [hap] at h; exact h))
    have h0 : (apR p ⟨6, 0, 0, 0, 0, y⟩).2 = 0 := by rw [hap]
    have e1 : q = (apR p ⟨6, 0, 0, 0, 0, y⟩).1 := by rw [hap]
    have qI := apR_inv HPI.out h0
    rw [← e1] at qI
    have qw := HPW.out.step h0
    rw [← e1] at qw
    have QPT : Pt q := ⟨qw, ⟨by have := qI.2.1; omega, by have := qI.2.1; omega⟩, qI.st, by rw [hq]; exact HPT.out.2.2.2.1, by rw [hq]; exact HPT.out.2.2.2.2⟩
    have HQW := hid qw
    have HRS := hid (fun (r : Pl) (h : r = p ∨ r = q) => (show Pt r ∧ r.a = 10 ∧ findO r (p.s c).ad (p.s c).po = some c from by rcases h with h | h; rw [h]; exact ⟨HPT.out, HPC.out.1, hfo⟩; rw [h]; exact ⟨QPT, by rw [hq]; exact HPC.out.1, by rw [hq]; exact hfo⟩))
    have HSP := hid hsp
    have HN0 := hid (show Nt32 (fun _ => none) from fun j v h => by cases h)
    clear hfo hap hpB h0 e1 qI qw QPT hq hsp
    go_enter Tryz.func6, Tryz.ntmps6
    go_wp2_with fail
    refine (known_9 _).mono ?_
    rintro e w1 ⟨rfl, hb⟩
    have S1 : Hid (HS [] W w1 []) := hid (S0.out.below hb)
    clear hb S0
    go_simp
    go_wp2_with fail
    refine (MK.out _ S1.out.bl).mono ?_
    rintro e w2 ⟨rfl, hb⟩
    have S2 : Hid (HS [] W w2 []) := hid (S1.out.below hb)
    clear hb S1 MK
    go_simp
    go_upto_region 4 with (first | ((with_reducible refine wl_id ?_); refine wl_ow rfl (ow_alloc rfl (zpl2 _) (by omega) S2.out ?_); intro P w_ hZ _; have SA := hid hZ; clear hZ) | ((with_reducible refine wl_id ?_); refine wl_ow rfl (ow_store (A := []) 0 330 (pc p) (pc p) rfl rfl rfl SA.out (by omega) (fun j hj => patch_all _ _ _ j hj) info_pl2 (pc_one _) ?_); intro w_ hZ; have SX := hid hZ; clear hZ))
    have S3 : Hid (HS [] W _ [thB P 330 (pc p)]) := hid (SX.out)
    clear SX SA S2
    go_wp2_with fail
    refine (Ws0.out _).mono ?_
    rintro e w' ⟨rfl, rfl⟩
    go_wp2_with ((with_reducible refine wl_id ?_); refine wl_ow rfl (ow_load 0 rfl 0 330 (pc p) rfl rfl S3.out (by omega) (fun j hj => by rw [Nat.zero_add]) Tryz.underlying33 rfl info_pl2 ?_))
    refine (up_9 S3.out p HPW.out).mono ?_
    rintro e w3 ⟨pb, sb, wb, rfl, hne, hz⟩
    have S4 : Hid (HS [] W w3 [thS sb wb p, thB pb 130 (plf sb (fun _ => none)), thB P 330 (pc p)]) := hid (hz)
    clear hz S3
    have HNE := hid hne
    clear hne
    go_simp
    obtain ⟨q0, q1, q2, q3, q4⟩ := (pool_fb (S4.out.fb 2 rfl)).s5 c hc
    go_wp2_with fail
    refine (RTK.out _).mono ?_
    rintro e w4 ⟨rfl, hb⟩
    have S5 : Hid (HS [] W w4 [thS sb wb p, thB pb 130 (plf sb (fun _ => none)), thB P 330 (pc p)]) := hid (S4.out.below hb)
    clear hb S4 RTK q0 q1 q2 q3 q4
    go_simp
    go_wp2_with fail
    go_loopg [12] 10 (fun gh i wx => ∃ (k : Nat) (nr : Nat → Option Int) (r : Pl) (sb wb : Nat), gh = 10 - k ∧ k ≤ 10 ∧ k ≤ n2 ∧ i = .int .i64 (k : Int) ∧ (pb ≠ sb ∧ pb ≠ wb) ∧ (r = p ∨ r = q) ∧ Nt32 nr ∧ ((nr c).isSome = decide (0 < k)) ∧ HS [] W wx [thS sb wb r, thB pb 130 (plf sb nr), thB P 330 (pc p)])
    case atStart => exact ⟨0, fun _ => none, p, sb, wb, by omega, by omega, by omega, rfl, HNE.out, .inl rfl, HN0.out, rfl, S5.out⟩
    case round =>
      clear S5 HNE sb wb
      obtain ⟨k, nr, r, sb, wb, hgh, hk, hkn, rfl, hne, hr, hnr, hsm, hS⟩ := hrel
      have U0 := hid hS
      have HNE := hid hne
      have HR := hid hr
      have HNR := hid hnr
      have HSM := hid hsm
      clear hS hne hr hnr hsm
      obtain ⟨hRP, hR10, hRF⟩ := HRS.out r HR.out
      have HRP := hid hRP
      have HRF := hid hRF
      have HR10 := hid hR10
      clear hRP hRF hR10
      go_upto_region 11 with (fail)
      obtain ⟨bb, hbb⟩ : ∃ bb : Bool, bb = (decide (k < n2) && decide (k < 10)) := ⟨_, rfl⟩
      have HBB := hid hbb
      clear hbb
      go_cut [44] from 37 to 44 (fun x wx => x = .bool bb ∧ wr = wx)
      case first =>
        by_cases h1 : (k : Int) < n2
        · by_cases h2 : (k : Int) < 10
          · go_wp2_with fail
            go_meet
            exact ⟨by rw [HBB.out]; simp; omega, rfl⟩
          · go_wp2_with fail
            go_meet
            exact ⟨by rw [HBB.out]; simp; omega, rfl⟩
        · go_wp2_with fail
          go_meet
          exact ⟨by rw [HBB.out]; simp; omega, rfl⟩
      case rest =>
        obtain ⟨rfl, rfl⟩ := hcut
        cases bb
        · have hsi : (nr c).isSome = decide (0 < n2) := nears_end HBB.out HSM.out hkn hk
          have HSI := hid hsi
          clear HBB hsi
          have NE := hid (near_p (U0.out.fb 1 rfl) c hc)
          rw [HSI.out] at NE
          go_wp2_with fail
          refine (NE.out).mono ?_
          rintro e w30 ⟨rfl, hb⟩
          have U1 := hid (U0.out.below hb)
          clear hb U0 NE
          go_simp
          by_cases hn0 : 0 < n2
          · have hz : decide (0 < n2) = true := by simp [hn0]
            have hz2 : (n2 : Int) > 0 := by omega
            try rw [hz]
            try simp only [hz]
            go_wp2_with fail
            go_ret
            exact ⟨by simp, U1.out.bl⟩
          · have hz : decide (0 < n2) = false := by simp [hn0]
            have hz2 : ¬ (n2 : Int) > 0 := by omega
            try rw [hz]
            try simp only [hz]
            go_wp2_with fail
            go_ret
            exact ⟨by simp, U1.out.bl⟩
        · have hkn2 : k < n2 ∧ k < 10 := by have := HBB.out; simp at this; exact this
          obtain ⟨hl1, hl2⟩ := hkn2
          clear HBB
          have i2 : (k : Int) < n2 := by omega
          have i3 : (k : Int) < 10 := by omega
          obtain ⟨bb, off, rfl⟩ := Sl.addr (HR2.out _ U0.out.bl) (by omega)
          have RR := hid (fun (w : World) (h : Below W.heap.size W w) => Sl.at_ (show Sl w (some ⟨bb, off, none⟩) n2 (fun j => .int .u32 (g2 j)) from HR2.out w h) (j := k) (by omega))
          have hv := HG2.out k
          obtain ⟨v, hvv⟩ : ∃ v, v = g2 k := ⟨_, rfl⟩
          rw [← hvv] at RR hv
          clear hvv
          obtain ⟨hE, hL, hB, h0, F, hT⟩ := near_out (r := r) (nr := nr) (A := (p.s c).ad) (P := (p.s c).po) HR10.out HSP.out.1 HSP.out.2.1 hv HRF.out
          obtain ⟨G1, hG1⟩ : ∃ G, G = builtF (xN (p.s c).ad (p.s c).po v) := ⟨_, rfl⟩
          rw [← hG1] at hB h0 hT
          have BLD := hid (fun (w : World) (L : List Th) (h : HS [] W w L) (A : Option Addr) (c' : Nat) (hA : By w A 12 (mkBO v 1)) => (show Calls Tryz.prog 11 #[.agg #[.int .i64 1, .int .i64 5, .int .i64 0, .int .i64 (p.s c).ad, .int .i64 4000, .int .i64 (p.s c).po, .int .i64 0, .int .i64 2, .int .i64 0, .bool false, .int .i64 0, .slice A 12 c', .slice none 0 0]] w fun e w' => ∃ A c, e = .returned (.tuple #[.slice A 36 c, .int .i64 0]) ∧ HS [] W w' (thY (.slice A 36 c) 36 G1 :: L) ∧ 36 ≤ c from c_rbuild h (xN (p.s c).ad (p.s c).po v) (.inl rfl) 36 G1 hL.symm hG1 hE (mkB_B hv ⟨by decide, by decide⟩) c0B_ (by show 12 ≤ 1000000; decide) (by show 0 ≤ 1000000; decide) A c' none 0 hA (fun h => absurd h (by show ¬ 0 < 0; decide))))
          have MKO := hid (fun (w : World) (L : List Th) (h : HS [] W w L) => c_rmake h v 1 hv ⟨by decide, by decide⟩)
          have BG := hid hB
          have KG := hid h0
          have HT := hid hT
          have HNR2 := hid (setN_32 HNR.out c hv)
          clear hE hL hB h0 hT hG1
          have z1 : (0 : Int) ≤ k := by omega
          go_upto_region 13 with (fail)
          refine wp_region_held_drew (S := fun (w' : World) => HS [] W w' [thS sb wb r, thB pb 130 (plf sb (nr)), thB P 330 (pc p)]) (by kernel_rfl) ?_ (fun hHeld => ?_)
          · exact U0.out.drew
          refine tkq 0 hHeld ?_
          refine tkq 1 hHeld ?_
          refine tkq 2 hHeld ?_
          refine tkq 3 hHeld ?_
          refine tkq 4 hHeld ?_ (hy := by intro w hSw; (try dsimp only at hSw); obtain ⟨q0, q1, q2, q3, q4⟩ := (pool_fb (hSw.fb 2 rfl)).s5 c hc; go_simp; (try with_reducible rfl))
          refine tkq 5 hHeld ?_
          refine tkq 6 hHeld ?_
          refine tkq 7 hHeld ?_
          refine tkq 8 hHeld ?_
          refine tkq 9 hHeld ?_ (hy := by intro w hSw; (try dsimp only at hSw); obtain ⟨q0, q1, q2, q3, q4⟩ := (pool_fb (hSw.fb 2 rfl)).s5 c hc; go_simp; (try with_reducible rfl))
          refine tkq 10 hHeld ?_
          refine tkq 11 hHeld ?_
          refine tkq 12 hHeld ?_
          refine tkq 13 hHeld ?_ (hy := by intro w hSw; (try dsimp only at hSw); have xc := RR.out _ hSw.bl; go_simp; (try with_reducible rfl))
          refine only 14 rfl (by kernel_rfl) rfl (fun K hK => ?_)
          go_simp
          refine (MKO.out _ _ hHeld).mono ?_
          rintro e w20 ⟨AM, cM, rfl, hz, hcM⟩
          try go_wp2_with fail
          refine hK.out _ _ hz.tail (fun h2 => ?_)
          clear hK hHeld
          try simp only [Act.put, List.setIfInBounds_toArray, List.set_cons_zero, List.set_cons_succ]
          refine tkq 15 h2 ?_
          refine only 16 rfl (by kernel_rfl) rfl (fun K hK => ?_)
          go_simp
          refine (BLD.out _ _ hz AM cM (HS.by_ hz 0 rfl)).mono ?_
          rintro e w21 ⟨AQ, cQ, rfl, hz2, hcQ⟩
          try go_wp2_with fail
          refine hK.out _ _ hz2.tail.tail (fun h3 => ?_)
          clear hK h2 hz
          try simp only [Act.put, List.setIfInBounds_toArray, List.set_cons_zero, List.set_cons_succ]
          refine tkq 17 h3 ?_
          refine tkq 18 h3 ?_
          refine tkq 19 h3 ?_
          refine tkq 20 h3 ?_
          refine tkq 21 h3 ?_
          have U1 := hid (show HS [] W w21 [thY (.slice AQ 36 cQ) 36 G1, thS sb wb r, thB pb 130 (plf sb nr), thB P 330 (pc p)] from HS.drop (A := [_]) hz2)
          have HCQ := hid hcQ
          clear h3 hz2 hcQ hcM U0
          refine wpAnyH_done (by kernel_rfl) ?_ _
          go_wp2_with fail
          refine (c_take (A := [thY (.slice AQ 36 cQ) 36 G1, thS sb wb r]) (B := [thB P 330 (pc p)]) U1.out (U1.out.st 1 rfl) HNE.out HRP.out HNR.out G1 36 cQ AQ BG.out (by omega) (fun _ => by rw [KG.out]; decide) (U1.out.by_ 0 rfl) HCQ.out _ HT.out).mono ?_
          rintro e w22 ⟨AR, cR, rfl, hz, hcc⟩
          dsimp only at hz hcc ⊢
          have U2 := hid (show HS [] W w22 [thS sb wb r, thB pb 130 (plf sb (setN nr c v)), thB P 330 (pc p)] from HS.tail (HS.tail hz))
          clear hz hcc U1
          go_simp
          go_upto_region 15 with (fail)
          go_cut [15, 16] from 70 to 77 (fun v2 u2 wx => ∃ Q, v2 = .pointer (some ⟨Q, 0, none⟩) ∧ HS [] W wx (thB Q 330 (pc q) :: [thS sb wb r, thB pb 130 (plf sb (setN nr c v)), thB P 330 (pc p)]))
          case first =>
            refine wp_region_held_drew (S := fun (w' : World) => HS [] W w' [thS sb wb r, thB pb 130 (plf sb (setN nr c v)), thB P 330 (pc p)]) (by kernel_rfl) ?_ (fun hHeld => ?_)
            · exact U2.out.drew
            skip
            refine tk 0 (v := .agg (FA 330 (pc p))) rfl (by kernel_rfl) (by kernel_rfl) (by kernel_rfl) (fun _ _ _ h => h) rfl (fun w hSw => ex_load rfl rfl ((hSw.fb 2 rfl).load 0 330 (pc p) (by omega) (fun j hj => by rw [Nat.zero_add]) Tryz.underlying33 rfl info_pl2)) hHeld ?_; (try simp only [Act.put, List.setIfInBounds_toArray, List.set_cons_zero, List.set_cons_succ])
            refine tkq 1 hHeld ?_
            refine twoUp 2 8 rfl rfl (by kernel_rfl) rfl rfl (fun K hK => ?_) (fun K hK => ?_)
            · go_simp
              refine (LK.out _).mono ?_
              rintro e w23 ⟨rfl, hb⟩
              try go_wp2_with fail
              have zhz0 := HS.below hHeld hb
              refine hK.out _ _ zhz0 (fun hz0 => ?_)
              clear hK hb
              try simp only [Act.put, List.setIfInBounds_toArray, List.set_cons_zero, List.set_cons_succ]
              refine tkq 3 hz0 ?_
              refine twoUp 4 8 rfl rfl (by kernel_rfl) rfl rfl (fun K hK => ?_) (fun K hK => ?_)
              · go_simp
                refine (APQ.out _).mono ?_
                rintro e w24 ⟨rfl, hb⟩
                try go_wp2_with fail
                have zhz1 := HS.below zhz0 hb
                refine hK.out _ _ zhz1 (fun hz1 => ?_)
                clear hK hb
                try simp only [Act.put, List.setIfInBounds_toArray, List.set_cons_zero, List.set_cons_succ]
                refine tkq 5 hz1 ?_
                refine tkq 6 hz1 ?_
                refine tkq 7 hz1 ?_
                refine only 8 rfl (by kernel_rfl) rfl (fun K hK => ?_)
                refine ow_alloc rfl (zpl2 _) (by omega) zhz1 (fun Q w25 zhz2 _ => ?_)
                refine hK.out _ _ zhz2.tail (fun hz2 => ?_)
                clear hK
                try simp only [Act.put, List.setIfInBounds_toArray, List.set_cons_zero, List.set_cons_succ]
                refine only 9 rfl (by kernel_rfl) rfl (fun K hK => ?_)
                refine ow_store (A := []) 0 330 (pc q) (pc q) rfl rfl rfl zhz2 (by omega) (fun j hj => patch_all _ _ _ j hj) info_pl2 (pc_one _) (fun w26 hY => ?_)
                refine hK.out _ _ hY.tail (fun h9 => ?_)
                clear hK
                try simp only [Act.put, List.setIfInBounds_toArray, List.set_cons_zero, List.set_cons_succ]
                refine tkq 10 h9 ?_
                refine wpAnyH_done (by kernel_rfl) ?_ _
                go_wp2_with fail
                go_meet
                exact ⟨Q, rfl, hY⟩
              · refine ow_alloc rfl (zpl2 _) (by omega) zhz0 (fun Q w25 zhz1 _ => ?_)
                refine hK.out _ _ zhz1.tail (fun hz1 => ?_)
                clear hK
                try simp only [Act.put, List.setIfInBounds_toArray, List.set_cons_zero, List.set_cons_succ]
                refine only 4 rfl (by kernel_rfl) rfl (fun K hK => ?_)
                go_simp
                refine (APQ.out _).mono ?_
                rintro e w24 ⟨rfl, hb⟩
                try go_wp2_with fail
                have zhz2 := HS.below zhz1 hb
                refine hK.out _ _ zhz2.tail (fun hz2 => ?_)
                clear hK hb
                try simp only [Act.put, List.setIfInBounds_toArray, List.set_cons_zero, List.set_cons_succ]
                refine tkq 5 hz2 ?_
                refine tkq 6 hz2 ?_
                refine tkq 7 hz2 ?_
                refine only 9 rfl (by kernel_rfl) rfl (fun K hK => ?_)
                refine ow_store (A := []) 0 330 (pc q) (pc q) rfl rfl rfl zhz2 (by omega) (fun j hj => patch_all _ _ _ j hj) info_pl2 (pc_one _) (fun w26 hY => ?_)
                refine hK.out _ _ hY.tail (fun h9 => ?_)
                clear hK
                try simp only [Act.put, List.setIfInBounds_toArray, List.set_cons_zero, List.set_cons_succ]
                refine tkq 10 h9 ?_
                refine wpAnyH_done (by kernel_rfl) ?_ _
                go_wp2_with fail
                go_meet
                exact ⟨Q, rfl, hY⟩
            · refine ow_alloc rfl (zpl2 _) (by omega) hHeld (fun Q w25 zhz0 _ => ?_)
              refine hK.out _ _ zhz0.tail (fun hz0 => ?_)
              clear hK
              try simp only [Act.put, List.setIfInBounds_toArray, List.set_cons_zero, List.set_cons_succ]
              refine only 2 rfl (by kernel_rfl) rfl (fun K hK => ?_)
              go_simp
              refine (LK.out _).mono ?_
              rintro e w23 ⟨rfl, hb⟩
              try go_wp2_with fail
              have zhz1 := HS.below zhz0 hb
              refine hK.out _ _ zhz1.tail (fun hz1 => ?_)
              clear hK hb
              try simp only [Act.put, List.setIfInBounds_toArray, List.set_cons_zero, List.set_cons_succ]
              refine tkq 3 hz1 ?_
              refine only 4 rfl (by kernel_rfl) rfl (fun K hK => ?_)
              go_simp
              refine (APQ.out _).mono ?_
              rintro e w24 ⟨rfl, hb⟩
              try go_wp2_with fail
              have zhz2 := HS.below zhz1 hb
              refine hK.out _ _ zhz2.tail (fun hz2 => ?_)
              clear hK hb
              try simp only [Act.put, List.setIfInBounds_toArray, List.set_cons_zero, List.set_cons_succ]
              refine tkq 5 hz2 ?_
              refine tkq 6 hz2 ?_
              refine tkq 7 hz2 ?_
              refine only 9 rfl (by kernel_rfl) rfl (fun K hK => ?_)
              refine ow_store (A := []) 0 330 (pc q) (pc q) rfl rfl rfl zhz2 (by omega) (fun j hj => patch_all _ _ _ j hj) info_pl2 (pc_one _) (fun w26 hY => ?_)
              refine hK.out _ _ hY.tail (fun h9 => ?_)
              clear hK
              try simp only [Act.put, List.setIfInBounds_toArray, List.set_cons_zero, List.set_cons_succ]
              refine tkq 10 h9 ?_
              refine wpAnyH_done (by kernel_rfl) ?_ _
              go_wp2_with fail
              go_meet
              exact ⟨Q, rfl, hY⟩
          case rest =>
            obtain ⟨Q, rfl, hz⟩ := hcut
            have U3 := hid hz
            clear hz U2
            go_upto_if 80 with (fail)
            go_cut [] from 78 to 83 (fun wx => ∃ (r2 : Pl) (s2 b2 : Nat), (pb ≠ s2 ∧ pb ≠ b2) ∧ (r2 = p ∨ r2 = q) ∧ HS [] W wx [thS s2 b2 r2, thB pb 130 (plf s2 (setN nr c v)), thB P 330 (pc p)])
            case first =>
              cases e3 : ((k : Int) % 3 == 1)
              · go_wp2_with fail
                go_meet
                exact ⟨r, sb, wb, HNE.out, HR.out, U3.out.tail⟩
              · go_wp2_with ((with_reducible refine wl_id ?_); refine wl_ow rfl (ow_load 0 rfl 0 330 (pc q) rfl rfl U3.out (by omega) (fun j hj => by rw [Nat.zero_add]) Tryz.underlying33 rfl info_pl2 ?_))
                have U4 := hid (show HS [] W _ [thB Q 330 (pc q), thS sb wb r, thB pb 130 (plc (some ⟨sb, 0, none⟩) true (nrV (setN nr c v))), thB P 330 (pc p)] from U3.out)
                refine (c_load (A := [thB Q 330 (pc q), thS sb wb r]) (B := [thB P 330 (pc p)]) U4.out q HQW.out).mono ?_
                rintro e w27 ⟨rfl, s2, b2, hne2, hz⟩
                dsimp only [List.cons_append, List.nil_append] at hz
                have HN2 := hid hne2
                have U5 := hid (show HS [] W w27 [thS s2 b2 q, thB pb 130 (plf s2 (setN nr c v)), thB P 330 (pc p)] from HS.drop (A := [_]) (HS.drop (A := [_]) hz))
                clear hz hne2 U3 U4
                go_simp
                go_wp2_with fail
                go_meet
                exact ⟨q, s2, b2, HN2.out, .inr rfl, U5.out⟩
            case rest =>
              obtain ⟨r2, s2, b2, hne2, hr2, hz⟩ := hcut
              have U6 := hid hz
              have HN2 := hid hne2
              have HR2x := hid hr2
              clear hz hne2 hr2 U3
              have NE := hid (near_p (U6.out.fb 1 rfl) c hc)
              rw [setN_at] at NE
              dsimp only [Option.getD, Option.isSome] at NE
              go_wp2_with fail
              refine (NE.out).mono ?_
              rintro e w28 ⟨rfl, hb⟩
              have U7 := hid (U6.out.below hb)
              clear hb U6 NE
              go_simp
              have xc := RR.out _ U7.out.bl
              have xn : (v != v) = false := by simp
              go_wp2_with fail
              go_roundg (10 - (k + 1))
              case rel => exact ⟨k + 1, setN nr c v, r2, s2, b2, by omega, by omega, by omega, by go_num, HN2.out, HR2x.out, HNR2.out, by rw [setN_at]; simp, U7.out⟩
              case measure => omega

set_option maxRecDepth 100000 in
theorem lifted (os : Os) (started : os.Started) (H : Type) (enc : TypeId × Value → H) :
    ReturnsInHanded {} Tryz.checked os 6 .any (Rows.planeNearsSpec.pre6 enc Tryz.prog Tryz.f6 [] false) (Rows.planeNearsSpec.post enc Tryz.prog Tryz.f6 false true false false) :=
  law_step (s := Rows.planeNearsSpec) started (by kernel_rfl) Tryz.func6
    (ChangeSpec.witness6 (s := Rows.planeNearsSpec) (enc := enc) (C := Tryz.checked) false ⟨#[], #[.slice none 0 0, .int .i64 0, .slice none 0 0, .int .i64 0], []⟩ 8 (by kernel_rfl) (by kernel_rfl) (by kernel_rfl) (by kernel_rfl))
    rfl (by rw [Tryz.params6]; decide +kernel) rfl Tryz.underlying4
    (fun ds h => by
      rw [Tryz.params6] at h
      match ds, h with
      | [_, _, _, _], _ => rfl)
    (fun W base args ds ps hval hA hsz => by
      rw [Tryz.params6] at hA hval hsz
      obtain ⟨v0, vs0, d0, ds0, p0, q0, hargs, rfl, rfl, h0, r0⟩ := trodAll_cons hA
      obtain ⟨v1, vs1, d1, ds1, p1, q1, rfl, rfl, rfl, h1, r1⟩ := trodAll_cons r0
      obtain ⟨v2, vs2, d2, ds2, p2, q2, rfl, rfl, rfl, h2, r2⟩ := trodAll_cons r1
      obtain ⟨v3, vs3, d3, ds3, p3, q3, rfl, rfl, rfl, h3, r3⟩ := trodAll_cons r2
      obtain ⟨rfl, rfl, rfl⟩ := trodAll_nil r3
      obtain rfl : args = #[v0, v1, v2, v3] := by cases args; simp_all
      obtain ⟨A0, n0, c0, g0, rfl, hn0, hc0, hs0, hw0, hl0, hd0⟩ := open_row Tryz.underlying22 Tryz.underlying3 (by kernel_rfl) (hval 0 22 v0 rfl rfl) h0
      have re0 : c0 * 8 ≤ 140737488351232 := by
        rcases hd0 with ⟨_, h0⟩ | ⟨xs, ys, h1, h2⟩
        · omega
        · have := sized_slice hsz (j := 0) (t := 22) (e := 3) rfl (by rw [h1]; rfl) Tryz.underlying22
          rw [h2, show Tryz.prog.bytesOf 3 = 8 from by kernel_rfl] at this
          simpa [reachBytes] using this
      obtain ⟨a1, rfl, rfl, rfl, w1⟩ := open_int Tryz.underlying3 (hval 1 3 v1 rfl rfl) h1
      obtain ⟨A2, n2, c2, g2, rfl, hn2, hc2, hs2, hw2, hl2, hd2⟩ := open_row Tryz.underlying67 Tryz.underlying56 (by kernel_rfl) (hval 2 67 v2 rfl rfl) h2
      have re2 : c2 * 4 ≤ 140737488351232 := by
        rcases hd2 with ⟨_, h0⟩ | ⟨xs, ys, h1, h2⟩
        · omega
        · have := sized_slice hsz (j := 2) (t := 67) (e := 56) rfl (by rw [h1]; rfl) Tryz.underlying67
          rw [h2, show Tryz.prog.bytesOf 56 = 4 from by kernel_rfl] at this
          simpa [reachBytes] using this
      obtain ⟨a3, rfl, rfl, rfl, w3⟩ := open_int Tryz.underlying3 (hval 3 3 v3 rfl rfl) h3
      exact walk W A0 n0 c0 g0 hn0 hc0 hs0 (fun j => bounds_i64 (hw0 j)) hl0 re0 a1 (bounds_i64 w1) A2 n2 c2 g2 hn2 hc2 hs2 (fun j => bounds_u32 (hw2 j)) hl2 re2 a3 (bounds_i64 w3))

theorem proved : Rows.PlaneNearsSaid :=
  OpenClaim.holds_of_wide 6 Tryz.f6 rfl rfl rfl rfl rfl rfl rfl ⟨rfl, rfl, rfl, rfl, rfl⟩ rfl rfl rfl rfl rfl (by kernel_rfl) Tryz.func6 (by kernel_rfl)
    (of_decide_eq_true (by kernel_rfl)) (by unfold Func.isWrapper; first | (rw [if_pos (by decide +kernel)]; kernel_rfl) | (rw [if_neg (by decide +kernel)]; exact ⟨rfl, rfl⟩))
    (fun os started H enc _ => lifted os started H enc)
end Go.Proofs.YtjfopkbpaekejaaGreat.planeNears
