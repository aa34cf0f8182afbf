/- roundhousetop.TopHealth answers true for every row, any numbers; no condition. -/
import Derived.Test.YthgffpfigmibhaaGreatGa
import Derived.Test.YthgffpfigmibhaaGreatTopHl
import Derived.Deep.LoopGhost
import Derived.Deep.CutRange
import Derived.BigQuiet
import Derived.Deep.RegionHeld3
import Derived.Deep.Cut
namespace Go.Proofs.YthgffpfigmibhaaGreat.topHealth
set_option linter.unusedVariables false
set_option linter.unusedSimpArgs false
open Go.RowKit Go.ChangeShapes Go.WideShapes Go.ChangeAt

attribute [local irreducible] FA FL
set_option maxRecDepth 100000 in
set_option maxHeartbeats 8000000 in
theorem walk (W : World) (A1 : Option Addr) (n1 c1 : Nat) (g1 : Nat → Int) (hn1 : n1 ≤ c1) (hc1 : c1 ≤ maxLen) (hr1 : Is W A1 n1 g1) (hg1 : IsI g1) (hl1 : ∀ ad, A1 = some ad → 0 < n1 → ad.block < W.heap.size) (re1 : c1 * 8 ≤ 140737488351232) (a0 : Int) (r_a0 : -9223372036854775808 ≤ a0 ∧ a0 ≤ 9223372036854775807) (b0 : Int) (r_b0 : -9223372036854775808 ≤ b0 ∧ b0 ≤ 9223372036854775807) (d0 : Int) (r_d0 : -9223372036854775808 ≤ d0 ∧ d0 ≤ 9223372036854775807) (e0 : Int) (r_e0 : -9223372036854775808 ≤ e0 ∧ e0 ≤ 9223372036854775807) :
    Calls Tryz.prog 6 #[.slice A1 n1 c1, .int .i64 a0, .int .i64 b0, .int .i64 d0, .int .i64 e0] W fun e w' => e = .returned (.bool true) ∧ Below W.heap.size W w' := by
  obtain ⟨p, hp⟩ : ∃ p, p = mkP g1 (min n1 60) := ⟨_, rfl⟩
  have HPI := hid (show Pinv p 60 from by rw [hp]; exact (mkP_inv g1 _).mono (by omega))
  have HPW := hid (show Pw p from by rw [hp]; exact mk_pw g1 _)
  have MK := hid (fun (w : World) (hb : Below W.heap.size W w) => (show Calls Tryz.prog 9 #[.slice A1 n1 c1, .int .i64 60] w fun x w' => x = .returned (.agg (FA 330 (pc p))) ∧ Below w.heap.size w w' from by rw [hp]; exact mk_top W A1 n1 c1 g1 hr1 hl1 hn1 hc1 60 (by decide) w hb))
  clear hp hr1 hl1 hg1 re1 hn1 hc1
  have S0 : Hid (HS [] W W []) := hid HS.start
  obtain ⟨s0, hs0⟩ : ∃ x, x = wi a0 6 := ⟨_, rfl⟩
  have bs0 := wi_bd a0 6 (by omega)
  rw [← hs0] at bs0
  have Ws0 := hid (fun w => re_i64 (within_any a0 6 w (by omega) (by omega)) hs0.symm)
  clear hs0
  obtain ⟨bs01, bs02⟩ := bs0
  obtain ⟨c, rfl⟩ : ∃ c : Nat, s0 = (c : Int) := ⟨s0.toNat, by omega⟩
  have hc : c < 64 := by omega
  have i0 : (0 : Int) ≤ c := by omega
  have i1 : (c : Int) < 64 := by omega
  obtain ⟨f0, hf0⟩ : ∃ x, x = wi b0 5 := ⟨_, rfl⟩
  have bf0 := wi_bd b0 5 (by omega)
  rw [← hf0] at bf0
  have Wf0 := hid (fun w => re_i64 (within_any b0 5 w (by omega) (by omega)) hf0.symm)
  clear hf0
  obtain ⟨bf01, bf02⟩ := bf0
  obtain ⟨fN, hfN⟩ : ∃ fN : Nat, 1 + f0 = (fN : Int) := ⟨(1 + f0).toNat, by omega⟩
  have fN1 : 1 ≤ fN := by omega
  have fN5 : fN ≤ 5 := by omega
  by_cases ht : (p.s c).st = 2
  · obtain ⟨f, hf⟩ : ∃ f, f = flN d0 e0 := ⟨_, rfl⟩
    have hfI : f.I := by rw [hf]; exact flN_I_ _ _
    have FLW := hid (fun (w : World) => (show Calls Tryz.prog 10 #[.int .i64 d0, .int .i64 e0] w fun e w' => e = .returned (.agg #[.int .i64 f.a, .int .i64 f.p, .int .i64 f.ta, .int .i64 f.tp]) ∧ Below w.heap.size w w' from by rw [hf]; exact lflow_any d0 e0 w ⟨by omega, by omega⟩ ⟨by omega, by omega⟩))
    clear hf
    have MKC := hid (fun (w : World) (s : Int) (hs : 0 ≤ s ∧ s < 64) => (show Calls Tryz.prog 11 #[.agg #[.int .i64 p.r.e, .int .u64 p.r.p.a, .int .u64 p.r.p.b, .int .u64 p.r.c.a, .int .u64 p.r.c.b, .int .u64 p.r.n.a, .int .u64 p.r.n.b], .int .i64 2, .agg #[.int .i64 f.a, .int .i64 f.p, .int .i64 f.ta, .int .i64 f.tp], .int .i64 s] w fun e w' => e = .returned (.int .i64 (cok 256 p.r.c 2 f s (p.r.e % 4))) ∧ Below w.heap.size w w' from cmake2 p.r f s hfI hs w))
    have FLT := hid hfI
    have h2 := dn_run hc ht
    obtain ⟨q1, hq1⟩ : ∃ q, q = dnP p c := ⟨_, rfl⟩
    have hq2 : (q1.s c).st = 3 := by rw [hq1]; exact h2.2
    have HPW1 := hid (show Pw q1 from by rw [hq1]; exact HPW.out.step h2.1)
    have hrun1 : runP p (gl [⟨3, (c : Int), 0, 0, 0, zKy⟩]) 1 = some q1 := by rw [hq1]; exact run_one (g := gl [⟨3, (c : Int), 0, 0, 0, zKy⟩]) h2.1
    have HPI1 := hid (show Pinv q1 61 from (run_inv HPI.out hrun1).mono (by omega))
    have MKU := hid (fun (w : World) => mark_top p (c : Int) 0 w)
    rw [mrk_nil] at MKU
    have MKD := hid (fun (w : World) => mark_top p (c : Int) 2 w)
    rw [mrk_dn hc ht] at MKD
    have AL0 := hid (fun (A : Option Addr) (d : Nat) (w : World) (hA : Se w A 0 (gl [])) => all_top_ p (gl []) A 0 d w hA (by decide) 60 HPI.out (by decide) p rfl)
    have AL1 := hid (fun (A : Option Addr) (d : Nat) (w : World) (hA : Se w A 1 (gl [⟨3, (c : Int), 0, 0, 0, zKy⟩])) => all_top_ p (gl [⟨3, (c : Int), 0, 0, 0, zKy⟩]) A 1 d w hA (by decide) 60 HPI.out (by decide) q1 hrun1)
    have QK := hid (fun (w : World) => (show Calls Tryz.prog 11 #[.agg #[.int .i64 q1.r.e, .int .u64 q1.r.p.a, .int .u64 q1.r.p.b, .int .u64 q1.r.c.a, .int .u64 q1.r.c.b, .int .u64 q1.r.n.a, .int .u64 q1.r.n.b], .int .i64 2, .agg #[.int .i64 f.a, .int .i64 f.p, .int .i64 f.ta, .int .i64 f.tp], .int .i64 (c : Int)] w fun e w' => e = .returned (.int .i64 (cok 256 q1.r.c 2 f (c : Int) (q1.r.e % 4))) ∧ Below w.heap.size w w' from cmake2 q1.r f (c : Int) hfI (by omega) w))
    have QR := hid (fun (w : World) => (show Calls Tryz.prog 13 #[.agg #[.int .i64 q1.r.e, .int .u64 q1.r.p.a, .int .u64 q1.r.p.b, .int .u64 q1.r.c.a, .int .u64 q1.r.c.b, .int .u64 q1.r.n.a, .int .u64 q1.r.n.b], .int .i64 2, .agg #[.int .i64 f.a, .int .i64 f.p, .int .i64 f.ta, .int .i64 f.tp], .int .i64 (cok 256 q1.r.c 2 f (c : Int) (q1.r.e % 4))] w fun e w' => e = .returned (.tuple #[.int .i64 (c : Int), .bool true]) ∧ Below w.heap.size w w' from by
        have h := read2 q1.r f (cok 256 q1.r.c 2 f (c : Int) (q1.r.e % 4)) hfI (by have := HPI1.out.2.1; exact ⟨by omega, by omega⟩) w
        rw [read_cok 256 q1.r q1.r.c 2 f (c : Int) (q1.r.e % 4) (.inr rfl) (by omega) (by omega) (keyOf_now q1.r)] at h
        exact h))
    generalize cok 256 q1.r.c 2 f (c : Int) (q1.r.e % 4) = ck at QK QR
    have HQ2 := hid hq2
    have HT := hid ht
    clear MKC hfI h2 hq1 hq2 hrun1 ht FLT
    have bt : ((2 : Int) != 2) = false := by decide
    go_enter Tryz.func6, Tryz.ntmps6
    go_wp2_with fail
    refine (known_t _).mono ?_
    rintro e w1 ⟨rfl, hb⟩
    have S1 := hid (S0.out.below hb)
    clear hb
    go_simp
    go_wp2_with fail
    refine (MK.out _ S1.out.bl).mono ?_
    rintro e w2 ⟨rfl, hb⟩
    have S2 := hid (S1.out.below hb)
    clear hb S0 S1 MK
    go_simp
    go_upto_region 4 with (first | ((with_reducible refine wl_id ?_); refine wl_ow rfl (ow_alloc rfl (zpl2 _) (by omega) S2.out ?_); intro P w_ hZ _; have SA := hid hZ; clear hZ) | ((with_reducible refine wl_id ?_); refine wl_ow rfl (ow_store (A := []) 0 330 (pc p) (pc p) rfl rfl rfl SA.out (by omega) (fun j hj => patch_all _ _ _ j hj) info_pl2 (pc_one _) ?_); intro w_ hZ; have S3 := hid hZ; clear hZ))
    go_wp2_with fail
    refine (Ws0.out _).mono ?_
    rintro e w' ⟨rfl, rfl⟩
    obtain ⟨s0, s1, s2, s3, s4⟩ := (pool_fb (S3.out.fb 0 rfl)).s5 c hc
    rw [HT.out] at s0
    go_wp2_with fail
    clear s0 s1 s2 s3 s4
    refine (Wf0.out _).mono ?_
    rintro e w' ⟨rfl, rfl⟩
    go_upto_region 8 with (fail)
    try rw [hfN]
    try simp only [hfN]
    go_wp2_with fail
    refine (pulse_new S3.out (fN : Int) (by omega)).mono ?_
    rintro e w4 ⟨PB, bb, rfl, hz⟩
    have S4 := hid hz
    clear hz S3 S2 SA
    go_simp
    go_upto_region 9 with (fail)
    go_wp2_with fail
    refine (told_hs (A := []) S4.out (c : Int) 0 true (isSl_c hc) (by show (0 : Int) ≤ 0 ∧ (0 : Int) ≤ 1000000; decide) (by decide) 1 (true, 0, false, 0) (st_ft1 1 (fN : Int) 0 0 0 false (by decide)).1 (st_ft1 1 (fN : Int) 0 0 0 false (by decide)).2).mono ?_
    rintro e w5 ⟨rfl, M0, hM0, hz⟩
    have S5 := hid hz
    have HM0 := hid hM0
    clear hz hM0 S4
    go_simp
    go_upto_region 11 with (fail)
    go_upto_region 12 with (first | ((with_reducible refine wl_id ?_); refine wl_ow rfl (ow_load 1 rfl 0 330 (pc p) rfl rfl S5.out (by omega) (fun j hj => by rw [Nat.zero_add]) Tryz.underlying33 rfl info_pl2 ?_)) | ((with_reducible refine wl_id ?_); refine wl_ow rfl (ow_alloc rfl (zpl2 _) (by omega) S5.out ?_); intro Q w_ hZ _; have SB := hid hZ; clear hZ) | ((with_reducible refine wl_id ?_); refine wl_ow rfl (ow_store (A := []) 0 330 (pc p) (pc p) rfl rfl rfl SB.out (by omega) (fun j hj => patch_all _ _ _ j hj) info_pl2 (pc_one _) ?_); intro w_ hZ; have S6 := hid hZ; clear hZ))
    clear S5 SB
    go_wp2_with fail
    go_loopg [17] fN (fun gh i wx => ∃ (k : Nat) (q : Pl) (M : Int → Option Life) (n9 : Nat) (la : Int), gh = fN - k ∧ k ≤ fN ∧ i = .int .i64 (k : Int) ∧ (k < fN → q = p ∧ cur M (c : Int) = (true, la, false, (k : Int))) ∧ (k = fN → q = q1) ∧ n9 ≤ k + 1 ∧ HS [] W wx [thB Q 330 (pc q), thPu PB bb n9 (fN : Int) M, thB P 330 (pc p)])
    case atStart => exact ⟨0, p, M0, _, 0, rfl, by omega, rfl, fun _ => ⟨rfl, HM0.out⟩, fun h => by omega, by omega, S6.out⟩
    case round =>
      clear S6 HM0
      obtain ⟨k, q, M, n9, la, hgh, hk, rfl, hq, hqe, hn9, hS⟩ := hrel
      have U0 := hid hS
      have HQQ := hid hq
      have HQE := hid hqe
      clear hS hq hqe
      by_cases hlt : (k : Int) < (fN : Int)
      · have hkf : k < fN := by omega
        obtain ⟨rfl, hcur⟩ := HQQ.out hkf
        have HCUR := hid hcur
        clear hcur HQQ HQE
        by_cases hla : k + 1 = fN
        · have c2 : ((k : Int) == (fN : Int) - 1) = true := by rw [beq_iff_eq]; omega
          have ru : rowUp false (k : Int) false = (k : Int) + 1 := by unfold rowUp; rw [if_pos rfl]
          have TV := hid (st_tf1 1 (fN : Int) la (k : Int) ((k : Int) + 1) false (by rw [ru]; omega))
          skip
          have HLA := hid hla
          clear hla ru
          have TL := hid (fun (w : World) (h : HS [] W w [thB Q 330 (pc q), thPu PB bb n9 (fN : Int) M, thB P 330 (pc q)]) => told_hs (A := [thB Q 330 (pc q)]) h (c : Int) ((k : Int) + 1) false (isSl_c hc) (by rw [HCUR.out]; exact ⟨by show (0 : Int) ≤ (k : Int); omega, by show (k : Int) ≤ 1000000; omega⟩) (by omega) 2 (false, (k : Int) + 1, false, 0) (by rw [HCUR.out]; exact TV.out.1) (by rw [HCUR.out]; exact TV.out.2))
          clear TV HCUR
          go_upto_region 15 with (fail)
          go_wp2_with fail
          refine (TL.out _ U0.out).mono ?_
          rintro e w8 ⟨rfl, M2, hM2, hz⟩
          have U1 := hid hz
          have HM2 := hid hM2
          clear hz hM2 U0 TL
          go_simp
          go_upto_region 18 with (fail)
          go_cut [19, 21] from 75 to 84 (fun x g wx => ∃ X, x = .pointer (some ⟨X, 0, none⟩) ∧ g = .int .i64 0 ∧ HS [] W wx (thB X 330 (pc q1) :: [thB Q 330 (pc q), thPu PB bb (n9 + 1) (fN : Int) M2, thB P 330 (pc q)]))
          case first =>
            refine wp_region_held_drew (S := fun (w' : World) => HS [] W w' [thB Q 330 (pc q), thPu PB bb (n9 + 1) (fN : Int) M2, thB P 330 (pc q)]) (by kernel_rfl) ?_ (fun hHeld => ?_)
            · exact U1.out.drew
            refine tk 0 (v := .agg (FA 330 (pc q))) rfl (by kernel_rfl) (by kernel_rfl) (by kernel_rfl) (fun _ _ _ h => h) rfl (fun w hSw => ex_load rfl rfl ((hSw.fb 0 rfl).load 0 330 (pc q) (by omega) (fun j hj => by rw [Nat.zero_add]) Tryz.underlying33 rfl info_pl2)) hHeld ?_; (try simp only [Act.put, List.setIfInBounds_toArray, List.set_cons_zero, List.set_cons_succ])
            refine tk 1 (v := .agg (FA 330 (pc q))) rfl (by kernel_rfl) (by kernel_rfl) (by kernel_rfl) (fun _ _ _ h => h) rfl (fun w hSw => ex_load rfl rfl ((hSw.fb 0 rfl).load 0 330 (pc q) (by omega) (fun j hj => by rw [Nat.zero_add]) Tryz.underlying33 rfl info_pl2)) hHeld ?_; (try simp only [Act.put, List.setIfInBounds_toArray, List.set_cons_zero, List.set_cons_succ])
            refine tkq 2 hHeld ?_
            refine tkq 3 hHeld ?_
            refine twoUp 4 10 rfl rfl (by kernel_rfl) rfl rfl (fun K hK => ?_) (fun K hK => ?_)
            · go_simp
              refine (MKD.out _).mono ?_
              rintro e w9 ⟨A, d, rfl, hO, hb⟩
              try go_wp2_with fail
              have hSe : Se w9 A 1 (gl [⟨3, (c : Int), 0, 0, 0, zKy⟩]) := Ow.sl hO
              refine hK.out _ _ (hHeld.below hb) (fun h5 => ?_)
              clear hK hb hO
              try simp only [Act.put, List.setIfInBounds_toArray, List.set_cons_zero, List.set_cons_succ]
              refine twoUp 5 10 rfl rfl (by kernel_rfl) rfl rfl (fun K hK => ?_) (fun K hK => ?_)
              · go_simp
                refine (AL1.out A d _ hSe).mono ?_
                rintro e w11 ⟨rfl, hb⟩
                try go_wp2_with fail
                refine hK.out _ _ (h5.below hb) (fun h6 => ?_)
                clear hK hb
                try simp only [Act.put, List.setIfInBounds_toArray, List.set_cons_zero, List.set_cons_succ]
                refine tkq 6 h6 ?_
                refine tkq 7 h6 ?_
                refine tkq 8 h6 ?_
                refine tkq 9 h6 ?_
                refine only 10 rfl (by kernel_rfl) rfl (fun K hK => ?_)
                refine ow_alloc rfl (zpl2 _) (by omega) h6 (fun X w10 hZ _ => ?_)
                refine hK.out _ _ hZ.tail (fun h7 => ?_)
                clear hK
                try simp only [Act.put, List.setIfInBounds_toArray, List.set_cons_zero, List.set_cons_succ]
                refine only 11 rfl (by kernel_rfl) rfl (fun K hK => ?_)
                refine ow_store (A := []) 0 330 (pc q1) (pc q1) rfl rfl rfl hZ (by omega) (fun j hj => patch_all _ _ _ j hj) info_pl2 (pc_one _) (fun w12 hY => ?_)
                refine hK.out _ _ hY.tail (fun hz9 => ?_)
                clear hK
                try simp only [Act.put, List.setIfInBounds_toArray, List.set_cons_zero, List.set_cons_succ]
                refine tkq 12 hz9 ?_
                refine tkq 13 hz9 ?_
                refine wpAnyH_done (by kernel_rfl) ?_ _
                go_wp2_with fail
                go_meet
                exact ⟨_, rfl, rfl, hY⟩
              · refine ow_allocS rfl (zpl2 _) (by omega) h5 (fun X w10 hZ hb => ?_)
                have hSe2 := Se.below hSe hb (Nat.le_refl _)
                refine hK.out _ _ hZ.tail (fun h6 => ?_)
                clear hK hb
                try simp only [Act.put, List.setIfInBounds_toArray, List.set_cons_zero, List.set_cons_succ]
                refine only 5 rfl (by kernel_rfl) rfl (fun K hK => ?_)
                go_simp
                refine (AL1.out A d _ hSe2).mono ?_
                rintro e w11 ⟨rfl, hb⟩
                try go_wp2_with fail
                have hZ2 := hZ.below hb
                refine hK.out _ _ (h6.below hb) (fun h7 => ?_)
                clear hK hb
                try simp only [Act.put, List.setIfInBounds_toArray, List.set_cons_zero, List.set_cons_succ]
                refine tkq 6 h7 ?_
                refine tkq 7 h7 ?_
                refine tkq 8 h7 ?_
                refine tkq 9 h7 ?_
                refine only 11 rfl (by kernel_rfl) rfl (fun K hK => ?_)
                refine ow_store (A := []) 0 330 (pc q1) (pc q1) rfl rfl rfl hZ2 (by omega) (fun j hj => patch_all _ _ _ j hj) info_pl2 (pc_one _) (fun w12 hY => ?_)
                refine hK.out _ _ hY.tail (fun hz9 => ?_)
                clear hK
                try simp only [Act.put, List.setIfInBounds_toArray, List.set_cons_zero, List.set_cons_succ]
                refine tkq 12 hz9 ?_
                refine tkq 13 hz9 ?_
                refine wpAnyH_done (by kernel_rfl) ?_ _
                go_wp2_with fail
                go_meet
                exact ⟨_, rfl, rfl, hY⟩
            · refine ow_alloc rfl (zpl2 _) (by omega) hHeld (fun X w10 hZ _ => ?_)
              refine hK.out _ _ hZ.tail (fun h5 => ?_)
              clear hK
              try simp only [Act.put, List.setIfInBounds_toArray, List.set_cons_zero, List.set_cons_succ]
              refine only 4 rfl (by kernel_rfl) rfl (fun K hK => ?_)
              go_simp
              refine (MKD.out _).mono ?_
              rintro e w9 ⟨A, d, rfl, hO, hb⟩
              try go_wp2_with fail
              have hSe : Se w9 A 1 (gl [⟨3, (c : Int), 0, 0, 0, zKy⟩]) := Ow.sl hO
              have hZ1 := hZ.below hb
              refine hK.out _ _ (h5.below hb) (fun h6 => ?_)
              clear hK hb hO
              try simp only [Act.put, List.setIfInBounds_toArray, List.set_cons_zero, List.set_cons_succ]
              refine only 5 rfl (by kernel_rfl) rfl (fun K hK => ?_)
              go_simp
              refine (AL1.out A d _ hSe).mono ?_
              rintro e w11 ⟨rfl, hb⟩
              try go_wp2_with fail
              have hZ2 := hZ1.below hb
              refine hK.out _ _ (h6.below hb) (fun h7 => ?_)
              clear hK hb
              try simp only [Act.put, List.setIfInBounds_toArray, List.set_cons_zero, List.set_cons_succ]
              refine tkq 6 h7 ?_
              refine tkq 7 h7 ?_
              refine tkq 8 h7 ?_
              refine tkq 9 h7 ?_
              refine only 11 rfl (by kernel_rfl) rfl (fun K hK => ?_)
              refine ow_store (A := []) 0 330 (pc q1) (pc q1) rfl rfl rfl hZ2 (by omega) (fun j hj => patch_all _ _ _ j hj) info_pl2 (pc_one _) (fun w12 hY => ?_)
              refine hK.out _ _ hY.tail (fun hz9 => ?_)
              clear hK
              try simp only [Act.put, List.setIfInBounds_toArray, List.set_cons_zero, List.set_cons_succ]
              refine tkq 12 hz9 ?_
              refine tkq 13 hz9 ?_
              refine wpAnyH_done (by kernel_rfl) ?_ _
              go_wp2_with fail
              go_meet
              exact ⟨_, rfl, rfl, hY⟩
          case rest =>
            obtain ⟨X, rfl, rfl, hz⟩ := hcut
            have U3 := hid hz
            clear hz U1
            go_upto_region 21 with (fail)
            go_wp2_with (first | ((with_reducible refine wl_id ?_); refine wl_ow rfl (ow_load 0 rfl 0 330 (pc q1) rfl rfl U3.out (by omega) (fun j hj => by rw [Nat.zero_add]) Tryz.underlying33 rfl info_pl2 ?_)) | ((with_reducible refine wl_id ?_); refine wl_ow rfl (ow_store (A := [thB X 330 (pc q1)]) 0 330 (pc q1) (pc q1) rfl rfl rfl U3.out (by omega) (fun j hj => patch_all _ _ _ j hj) info_pl2 (pc_one _) ?_); intro w_ hZ; have U4 := hid hZ.tail; clear hZ U3))
            go_roundg (fN - (k + 1))
            case rel => exact ⟨k + 1, q1, M2, n9 + 1, (k : Int) + 1, by omega, by omega, by go_num, fun h => by have := HLA.out; omega, fun _ => rfl, by omega, U4.out⟩
            case measure => omega
        · have c2 : ((k : Int) == (fN : Int) - 1) = false := by rw [beq_eq_false_iff_ne]; omega
          have ru : rowUp false (k : Int) false = (k : Int) + 1 := by unfold rowUp; rw [if_pos rfl]
          have TV := hid (st_tf 1 (fN : Int) la (k : Int) ((k : Int) + 1) false (by rw [ru]; omega))
          rw [ru] at TV
          skip
          have HLA := hid hla
          clear hla ru
          have TL := hid (fun (w : World) (h : HS [] W w [thB Q 330 (pc q), thPu PB bb n9 (fN : Int) M, thB P 330 (pc q)]) => told_hs (A := [thB Q 330 (pc q)]) h (c : Int) ((k : Int) + 1) false (isSl_c hc) (by rw [HCUR.out]; exact ⟨by show (0 : Int) ≤ (k : Int); omega, by show (k : Int) ≤ 1000000; omega⟩) (by omega) 0 (true, (k : Int) + 1, false, (k : Int) + 1) (by rw [HCUR.out]; exact TV.out.1) (by rw [HCUR.out]; exact TV.out.2))
          clear TV HCUR
          go_upto_region 15 with (fail)
          go_wp2_with fail
          refine (TL.out _ U0.out).mono ?_
          rintro e w8 ⟨rfl, M2, hM2, hz⟩
          have U1 := hid hz
          have HM2 := hid hM2
          clear hz hM2 U0 TL
          go_simp
          go_upto_region 18 with (fail)
          go_cut [19, 21] from 75 to 84 (fun x g wx => ∃ X, x = .pointer (some ⟨X, 0, none⟩) ∧ g = .int .i64 0 ∧ HS [] W wx (thB X 330 (pc q) :: [thB Q 330 (pc q), thPu PB bb (n9 + 1) (fN : Int) M2, thB P 330 (pc q)]))
          case first =>
            refine wp_region_held_drew (S := fun (w' : World) => HS [] W w' [thB Q 330 (pc q), thPu PB bb (n9 + 1) (fN : Int) M2, thB P 330 (pc q)]) (by kernel_rfl) ?_ (fun hHeld => ?_)
            · exact U1.out.drew
            refine tk 0 (v := .agg (FA 330 (pc q))) rfl (by kernel_rfl) (by kernel_rfl) (by kernel_rfl) (fun _ _ _ h => h) rfl (fun w hSw => ex_load rfl rfl ((hSw.fb 0 rfl).load 0 330 (pc q) (by omega) (fun j hj => by rw [Nat.zero_add]) Tryz.underlying33 rfl info_pl2)) hHeld ?_; (try simp only [Act.put, List.setIfInBounds_toArray, List.set_cons_zero, List.set_cons_succ])
            refine tk 1 (v := .agg (FA 330 (pc q))) rfl (by kernel_rfl) (by kernel_rfl) (by kernel_rfl) (fun _ _ _ h => h) rfl (fun w hSw => ex_load rfl rfl ((hSw.fb 0 rfl).load 0 330 (pc q) (by omega) (fun j hj => by rw [Nat.zero_add]) Tryz.underlying33 rfl info_pl2)) hHeld ?_; (try simp only [Act.put, List.setIfInBounds_toArray, List.set_cons_zero, List.set_cons_succ])
            refine tkq 2 hHeld ?_
            refine tkq 3 hHeld ?_
            refine twoUp 4 10 rfl rfl (by kernel_rfl) rfl rfl (fun K hK => ?_) (fun K hK => ?_)
            · go_simp
              refine (MKU.out _).mono ?_
              rintro e w9 ⟨A, d, rfl, hO, hb⟩
              try go_wp2_with fail
              have hSe : Se w9 A 0 (gl []) := Ow.sl hO
              refine hK.out _ _ (hHeld.below hb) (fun h5 => ?_)
              clear hK hb hO
              try simp only [Act.put, List.setIfInBounds_toArray, List.set_cons_zero, List.set_cons_succ]
              refine twoUp 5 10 rfl rfl (by kernel_rfl) rfl rfl (fun K hK => ?_) (fun K hK => ?_)
              · go_simp
                refine (AL0.out A d _ hSe).mono ?_
                rintro e w11 ⟨rfl, hb⟩
                try go_wp2_with fail
                refine hK.out _ _ (h5.below hb) (fun h6 => ?_)
                clear hK hb
                try simp only [Act.put, List.setIfInBounds_toArray, List.set_cons_zero, List.set_cons_succ]
                refine tkq 6 h6 ?_
                refine tkq 7 h6 ?_
                refine tkq 8 h6 ?_
                refine tkq 9 h6 ?_
                refine only 10 rfl (by kernel_rfl) rfl (fun K hK => ?_)
                refine ow_alloc rfl (zpl2 _) (by omega) h6 (fun X w10 hZ _ => ?_)
                refine hK.out _ _ hZ.tail (fun h7 => ?_)
                clear hK
                try simp only [Act.put, List.setIfInBounds_toArray, List.set_cons_zero, List.set_cons_succ]
                refine only 11 rfl (by kernel_rfl) rfl (fun K hK => ?_)
                refine ow_store (A := []) 0 330 (pc q) (pc q) rfl rfl rfl hZ (by omega) (fun j hj => patch_all _ _ _ j hj) info_pl2 (pc_one _) (fun w12 hY => ?_)
                refine hK.out _ _ hY.tail (fun hz9 => ?_)
                clear hK
                try simp only [Act.put, List.setIfInBounds_toArray, List.set_cons_zero, List.set_cons_succ]
                refine tkq 12 hz9 ?_
                refine tkq 13 hz9 ?_
                refine wpAnyH_done (by kernel_rfl) ?_ _
                go_wp2_with fail
                go_meet
                exact ⟨_, rfl, rfl, hY⟩
              · refine ow_allocS rfl (zpl2 _) (by omega) h5 (fun X w10 hZ hb => ?_)
                have hSe2 := Se.below hSe hb (Nat.le_refl _)
                refine hK.out _ _ hZ.tail (fun h6 => ?_)
                clear hK hb
                try simp only [Act.put, List.setIfInBounds_toArray, List.set_cons_zero, List.set_cons_succ]
                refine only 5 rfl (by kernel_rfl) rfl (fun K hK => ?_)
                go_simp
                refine (AL0.out A d _ hSe2).mono ?_
                rintro e w11 ⟨rfl, hb⟩
                try go_wp2_with fail
                have hZ2 := hZ.below hb
                refine hK.out _ _ (h6.below hb) (fun h7 => ?_)
                clear hK hb
                try simp only [Act.put, List.setIfInBounds_toArray, List.set_cons_zero, List.set_cons_succ]
                refine tkq 6 h7 ?_
                refine tkq 7 h7 ?_
                refine tkq 8 h7 ?_
                refine tkq 9 h7 ?_
                refine only 11 rfl (by kernel_rfl) rfl (fun K hK => ?_)
                refine ow_store (A := []) 0 330 (pc q) (pc q) rfl rfl rfl hZ2 (by omega) (fun j hj => patch_all _ _ _ j hj) info_pl2 (pc_one _) (fun w12 hY => ?_)
                refine hK.out _ _ hY.tail (fun hz9 => ?_)
                clear hK
                try simp only [Act.put, List.setIfInBounds_toArray, List.set_cons_zero, List.set_cons_succ]
                refine tkq 12 hz9 ?_
                refine tkq 13 hz9 ?_
                refine wpAnyH_done (by kernel_rfl) ?_ _
                go_wp2_with fail
                go_meet
                exact ⟨_, rfl, rfl, hY⟩
            · refine ow_alloc rfl (zpl2 _) (by omega) hHeld (fun X w10 hZ _ => ?_)
              refine hK.out _ _ hZ.tail (fun h5 => ?_)
              clear hK
              try simp only [Act.put, List.setIfInBounds_toArray, List.set_cons_zero, List.set_cons_succ]
              refine only 4 rfl (by kernel_rfl) rfl (fun K hK => ?_)
              go_simp
              refine (MKU.out _).mono ?_
              rintro e w9 ⟨A, d, rfl, hO, hb⟩
              try go_wp2_with fail
              have hSe : Se w9 A 0 (gl []) := Ow.sl hO
              have hZ1 := hZ.below hb
              refine hK.out _ _ (h5.below hb) (fun h6 => ?_)
              clear hK hb hO
              try simp only [Act.put, List.setIfInBounds_toArray, List.set_cons_zero, List.set_cons_succ]
              refine only 5 rfl (by kernel_rfl) rfl (fun K hK => ?_)
              go_simp
              refine (AL0.out A d _ hSe).mono ?_
              rintro e w11 ⟨rfl, hb⟩
              try go_wp2_with fail
              have hZ2 := hZ1.below hb
              refine hK.out _ _ (h6.below hb) (fun h7 => ?_)
              clear hK hb
              try simp only [Act.put, List.setIfInBounds_toArray, List.set_cons_zero, List.set_cons_succ]
              refine tkq 6 h7 ?_
              refine tkq 7 h7 ?_
              refine tkq 8 h7 ?_
              refine tkq 9 h7 ?_
              refine only 11 rfl (by kernel_rfl) rfl (fun K hK => ?_)
              refine ow_store (A := []) 0 330 (pc q) (pc q) rfl rfl rfl hZ2 (by omega) (fun j hj => patch_all _ _ _ j hj) info_pl2 (pc_one _) (fun w12 hY => ?_)
              refine hK.out _ _ hY.tail (fun hz9 => ?_)
              clear hK
              try simp only [Act.put, List.setIfInBounds_toArray, List.set_cons_zero, List.set_cons_succ]
              refine tkq 12 hz9 ?_
              refine tkq 13 hz9 ?_
              refine wpAnyH_done (by kernel_rfl) ?_ _
              go_wp2_with fail
              go_meet
              exact ⟨_, rfl, rfl, hY⟩
          case rest =>
            obtain ⟨X, rfl, rfl, hz⟩ := hcut
            have U3 := hid hz
            clear hz U1
            go_upto_region 21 with (fail)
            go_wp2_with (first | ((with_reducible refine wl_id ?_); refine wl_ow rfl (ow_load 0 rfl 0 330 (pc q) rfl rfl U3.out (by omega) (fun j hj => by rw [Nat.zero_add]) Tryz.underlying33 rfl info_pl2 ?_)) | ((with_reducible refine wl_id ?_); refine wl_ow rfl (ow_store (A := [thB X 330 (pc q)]) 0 330 (pc q) (pc q) rfl rfl rfl U3.out (by omega) (fun j hj => patch_all _ _ _ j hj) info_pl2 (pc_one _) ?_); intro w_ hZ; have U4 := hid hZ.tail; clear hZ U3))
            go_roundg (fN - (k + 1))
            case rel => exact ⟨k + 1, q, M2, n9 + 1, (k : Int) + 1, by omega, by omega, by go_num, fun _ => ⟨rfl, HM2.out⟩, fun h => by have := HLA.out; omega, by omega, U4.out⟩
            case measure => omega
      · have e : k = fN := by omega
        have e2 := HQE.out e
        subst e2
        clear HQE HQQ e
        have hst := HQ2.out
        have SH := hid (fun (B : Nat) (w : World) (h : IA w B 127 (whlW q)) => re_i64 (share_any (some ⟨B, 0, none⟩) 127 127 (whlW q) (c : Int) ⟨by omega, by omega⟩ w h.slice (by decide)) (show ((cnW (whlW q) (c : Int) 127 : Nat) : Int) = 0 from by rw [whl_not_ (by rw [hst]; decide)]; rfl))
        have TKC := hid (fun (w : World) => (show Calls Tryz.prog 26 #[.agg #[.int .i64 3, .int .i64 (q.s c).ad, .int .i64 (q.s c).po, .int .i64 (q.s c).we, .int .i64 (q.s c).si]] w fun e w' => e = .returned (.bool true) ∧ Below w.heap.size w w' from by
            have h := takes_any (q.s c) w
            unfold spV at h
            rw [hst] at h
            exact h))
        clear hst
        go_upto_region 22 with (fail)
        refine wp_region_held_drew (S := fun (w' : World) => HS [] W w' [thB Q 330 (pc q), thPu PB bb n9 (fN : Int) M, thB P 330 (pc p)]) (by kernel_rfl) ?_ (fun hHeld => ?_)
        · exact U0.out.drew
        refine tkq 0 hHeld ?_
        refine tkq 1 hHeld ?_ (hy := by intro w hSw; (try dsimp only at hSw); obtain ⟨r0, r1, r2, r3, r4, r5, r6⟩ := (pool_fb (hSw.fb 0 rfl)).r7; go_simp; (try with_reducible rfl))
        refine tkq 2 hHeld ?_
        refine tkq 3 hHeld ?_
        refine tkq 5 hHeld ?_
        refine only 4 rfl (by kernel_rfl) rfl (fun K hK => ?_)
        go_simp
        refine (FLW.out _).mono ?_
        rintro e w34 ⟨rfl, hb⟩
        try go_wp2_with fail
        refine hK.out _ _ (hHeld.below hb) (fun h5 => ?_)
        clear hK hb
        try simp only [Act.put, List.setIfInBounds_toArray, List.set_cons_zero, List.set_cons_succ]
        refine only 6 rfl (by kernel_rfl) rfl (fun K hK => ?_)
        go_simp
        refine (QK.out _).mono ?_
        rintro e w36 ⟨rfl, hb⟩
        try go_wp2_with fail
        refine hK.out _ _ (h5.below hb) (fun h6 => ?_)
        clear hK hb
        try simp only [Act.put, List.setIfInBounds_toArray, List.set_cons_zero, List.set_cons_succ]
        refine tkq 7 h6 ?_
        have U1 := hid h6
        clear h6 h5 hHeld U0
        refine wpAnyH_done (by kernel_rfl) ?_ _
        go_upto_region 23 with (fail)
        refine wp_region_held_drew (S := fun (w' : World) => HS [] W w' [thB Q 330 (pc q), thPu PB bb n9 (fN : Int) M, thB P 330 (pc p)]) (by kernel_rfl) ?_ (fun hHeld => ?_)
        · exact U1.out.drew
        refine tkq 0 hHeld ?_
        refine tkq 1 hHeld ?_ (hy := by intro w hSw; (try dsimp only at hSw); obtain ⟨r0, r1, r2, r3, r4, r5, r6⟩ := (pool_fb (hSw.fb 0 rfl)).r7; go_simp; (try with_reducible rfl))
        refine tkq 2 hHeld ?_
        refine tkq 3 hHeld ?_
        refine tkq 5 hHeld ?_
        refine only 4 rfl (by kernel_rfl) rfl (fun K hK => ?_)
        go_simp
        refine (FLW.out _).mono ?_
        rintro e w34 ⟨rfl, hb⟩
        try go_wp2_with fail
        refine hK.out _ _ (hHeld.below hb) (fun h5 => ?_)
        clear hK hb
        try simp only [Act.put, List.setIfInBounds_toArray, List.set_cons_zero, List.set_cons_succ]
        refine only 6 rfl (by kernel_rfl) rfl (fun K hK => ?_)
        go_simp
        refine (QR.out _).mono ?_
        rintro e w36 ⟨rfl, hb⟩
        try go_wp2_with fail
        refine hK.out _ _ (h5.below hb) (fun h6 => ?_)
        clear hK hb
        try simp only [Act.put, List.setIfInBounds_toArray, List.set_cons_zero, List.set_cons_succ]
        refine tkq 7 h6 ?_
        refine tkq 8 h6 ?_
        refine tkq 9 h6 ?_
        refine tkq 10 h6 ?_
        refine tkq 11 h6 ?_
        have U2 := hid h6
        clear h6 h5 hHeld U1
        refine wpAnyH_done (by kernel_rfl) ?_ _
        go_upto_region 24 with (fail)
        obtain ⟨s0, s1, s2, s3, s4⟩ := (pool_fb (U2.out.fb 0 rfl)).s5 c hc
        rw [HQ2.out] at s0
        go_wp2_with ((with_reducible refine wl_id ?_); refine wl_ow rfl (ow_load 0 rfl 0 330 (pc q) rfl rfl U2.out (by omega) (fun j hj => by rw [Nat.zero_add]) Tryz.underlying33 rfl info_pl2 ?_))
        clear s0 s1 s2 s3 s4
        refine (make_w7 q HPW1.out _).mono ?_
        rintro e w40 ⟨B, rfl, hge, hIA, hb⟩
        have U3 := hid (U2.out.below hb)
        clear hb U2
        have HIA := hid hIA
        clear hIA
        go_simp
        go_wp2_with fail
        refine (SH.out B _ HIA.out).mono ?_
        rintro e w' ⟨rfl, rfl⟩
        go_simp
        obtain ⟨s0, s1, s2, s3, s4⟩ := (pool_fb (U3.out.fb 0 rfl)).s5 c hc
        rw [HQ2.out] at s0
        go_wp2_with fail
        clear s0 s1 s2 s3 s4
        refine (TKC.out _).mono ?_
        rintro e w41 ⟨rfl, hb⟩
        have U4 := hid (U3.out.below hb)
        clear hb U3
        go_simp
        go_wp2_with fail
        go_ret
        exact ⟨by simp, U4.out.bl⟩
  · go_enter Tryz.func6, Tryz.ntmps6
    go_wp2_with fail
    refine (known_t _).mono ?_
    rintro e w1 ⟨rfl, hb⟩
    have S1 := hid (S0.out.below hb)
    clear hb
    go_simp
    go_wp2_with fail
    refine (MK.out _ S1.out.bl).mono ?_
    rintro e w2 ⟨rfl, hb⟩
    have S2 := hid (S1.out.below hb)
    clear hb S0 S1 MK
    go_simp
    go_upto_region 4 with (first | ((with_reducible refine wl_id ?_); refine wl_ow rfl (ow_alloc rfl (zpl2 _) (by omega) S2.out ?_); intro P w_ hZ _; have SA := hid hZ; clear hZ) | ((with_reducible refine wl_id ?_); refine wl_ow rfl (ow_store (A := []) 0 330 (pc p) (pc p) rfl rfl rfl SA.out (by omega) (fun j hj => patch_all _ _ _ j hj) info_pl2 (pc_one _) ?_); intro w_ hZ; have S3 := hid hZ; clear hZ))
    go_wp2_with fail
    refine (Ws0.out _).mono ?_
    rintro e w' ⟨rfl, rfl⟩
    obtain ⟨s0, s1, s2, s3, s4⟩ := (pool_fb (S3.out.fb 0 rfl)).s5 c hc
    have ht2 : ((p.s c).st != 2) = true := by simpa using ht
    go_wp2_with fail
    go_ret
    exact ⟨rfl, S3.out.bl⟩

set_option maxRecDepth 100000 in
theorem lifted (os : Os) (started : os.Started) (H : Type) (enc : TypeId × Value → H) :
    ReturnsInHanded {} Tryz.checked os 6 .any (Rows.topHealthSpec.pre6 enc Tryz.prog Tryz.f6 [] false) (Rows.topHealthSpec.post enc Tryz.prog Tryz.f6 false true false false) :=
  law_step (s := Rows.topHealthSpec) started (by kernel_rfl) Tryz.func6
    (ChangeSpec.witness6 (s := Rows.topHealthSpec) (enc := enc) (C := Tryz.checked) false ⟨#[], #[.slice none 0 0, .int .i64 0, .int .i64 0, .int .i64 0, .int .i64 0], []⟩ 8 (by kernel_rfl) (by kernel_rfl) (by kernel_rfl) (by kernel_rfl))
    rfl (by rw [Tryz.params6]; decide +kernel) rfl Tryz.underlying4
    (fun ds h => by
      rw [Tryz.params6] at h
      match ds, h with
      | [_, _, _, _, _], _ => rfl)
    (fun W base args ds ps hval hA hsz => by
      rw [Tryz.params6] at hA hval hsz
      obtain ⟨v0, vs0, d0, ds0, p0, q0, hargs, rfl, rfl, h0, r0⟩ := trodAll_cons hA
      obtain ⟨v1, vs1, d1, ds1, p1, q1, rfl, rfl, rfl, h1, r1⟩ := trodAll_cons r0
      obtain ⟨v2, vs2, d2, ds2, p2, q2, rfl, rfl, rfl, h2, r2⟩ := trodAll_cons r1
      obtain ⟨v3, vs3, d3, ds3, p3, q3, rfl, rfl, rfl, h3, r3⟩ := trodAll_cons r2
      obtain ⟨v4, vs4, d4, ds4, p4, q4, rfl, rfl, rfl, h4, r4⟩ := trodAll_cons r3
      obtain ⟨rfl, rfl, rfl⟩ := trodAll_nil r4
      obtain rfl : args = #[v0, v1, v2, v3, v4] := by cases args; simp_all
      obtain ⟨A0, n0, c0, g0, rfl, hn0, hc0, hs0, hw0, hl0, hd0⟩ := open_row Tryz.underlying22 Tryz.underlying3 (by kernel_rfl) (hval 0 22 v0 rfl rfl) h0
      have re0 : c0 * 8 ≤ 140737488351232 := by
        rcases hd0 with ⟨_, h0⟩ | ⟨xs, ys, h1, h2⟩
        · omega
        · have := sized_slice hsz (j := 0) (t := 22) (e := 3) rfl (by rw [h1]; rfl) Tryz.underlying22
          rw [h2, show Tryz.prog.bytesOf 3 = 8 from by kernel_rfl] at this
          simpa [reachBytes] using this
      obtain ⟨a1, rfl, rfl, rfl, w1⟩ := open_int Tryz.underlying3 (hval 1 3 v1 rfl rfl) h1
      obtain ⟨a2, rfl, rfl, rfl, w2⟩ := open_int Tryz.underlying3 (hval 2 3 v2 rfl rfl) h2
      obtain ⟨a3, rfl, rfl, rfl, w3⟩ := open_int Tryz.underlying3 (hval 3 3 v3 rfl rfl) h3
      obtain ⟨a4, rfl, rfl, rfl, w4⟩ := open_int Tryz.underlying3 (hval 4 3 v4 rfl rfl) h4
      exact walk W A0 n0 c0 g0 hn0 hc0 hs0 (fun j => bounds_i64 (hw0 j)) hl0 re0 a1 (bounds_i64 w1) a2 (bounds_i64 w2) a3 (bounds_i64 w3) a4 (bounds_i64 w4))

theorem proved : Rows.TopHealthSaid :=
  OpenClaim.holds_of_wide 6 Tryz.f6 rfl rfl rfl rfl rfl rfl rfl ⟨rfl, rfl, rfl, rfl, rfl⟩ rfl rfl rfl rfl rfl (by kernel_rfl) Tryz.func6 (by kernel_rfl)
    (of_decide_eq_true (by kernel_rfl)) (by unfold Func.isWrapper; first | (rw [if_pos (by decide +kernel)]; kernel_rfl) | (rw [if_neg (by decide +kernel)]; exact ⟨rfl, rfl⟩))
    (fun os started H enc _ => lifted os started H enc)
end Go.Proofs.YthgffpfigmibhaaGreat.topHealth
