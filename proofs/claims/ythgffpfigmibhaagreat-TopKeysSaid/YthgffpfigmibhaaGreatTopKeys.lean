/- roundhousetop.TopKeys answers true for every row, any numbers; no condition. -/
import Derived.Test.YthgffpfigmibhaaGreatGa
import Derived.Test.YthgffpfigmibhaaGreatGu
import Derived.Deep.LoopGhost
import Derived.Deep.CutRange
import Derived.BigQuiet
import Derived.Deep.RegionHeld3
import Derived.Deep.Cut
namespace Go.Proofs.YthgffpfigmibhaaGreat.topKeys
set_option linter.unusedVariables false
set_option linter.unusedSimpArgs false
open Go.RowKit Go.ChangeShapes Go.WideShapes Go.ChangeAt

/-- What is read has its tag. -/
theorem read_tag {T : Int} {r : Rg} {kd : Int} {f : Fl} {c s : Int} (hT : T = 4096 ∨ T = 256) (h : readC T r kd f c = some s) : 0 ≤ c ∧ c < 256 * T ∧ ∃ k, keyOf r (c / (64 * T)) = some k ∧ W7 k kd f s (c / (64 * T)) % T = c % T ∧ 0 ≤ s ∧ s < 64 := by
  have hb := read_bd _ _ _ _ _ _ h
  unfold readC at h
  split at h
  · cases h
  · rename_i h0
    have h0' : 0 ≤ c ∧ c < 256 * T := by omega
    cases hk : keyOf r (c / (64 * T)) with
    | none => rw [hk] at h; cases h
    | some k =>
      rw [hk] at h
      dsimp only at h
      split at h
      · rename_i he
        injection h with h
        have := (cok_iff T k kd f c hT h0'.1 h0'.2).1 he
        rw [h] at this
        exact ⟨h0'.1, h0'.2, k, rfl, this, hb⟩
      · cases h
theorem zKyC (w : World) : (zeroValue 29).run Tryz.prog w = .ok (.agg ([.int .u64 0, .int .u64 0] : List Value).toArray) w := by kernel_rfl
theorem iKyC : (Tryz.prog.info? 29).map (·.size) = some 2 := by kernel_rfl
attribute [local irreducible] FA FL
set_option maxRecDepth 100000 in
set_option maxHeartbeats 8000000 in
theorem walk (W : World) (A1 : Option Addr) (n1 c1 : Nat) (g1 : Nat → Int) (hn1 : n1 ≤ c1) (hc1 : c1 ≤ maxLen) (hr1 : Is W A1 n1 g1) (hg1 : IsI g1) (hl1 : ∀ ad, A1 = some ad → 0 < n1 → ad.block < W.heap.size) (re1 : c1 * 8 ≤ 140737488351232) (a0 : Int) (r_a0 : -9223372036854775808 ≤ a0 ∧ a0 ≤ 9223372036854775807) (b0 : Int) (r_b0 : -9223372036854775808 ≤ b0 ∧ b0 ≤ 9223372036854775807) (d0 : Int) (r_d0 : -9223372036854775808 ≤ d0 ∧ d0 ≤ 9223372036854775807) (st : Bool) :
    Calls Tryz.prog 3 #[.slice A1 n1 c1, .int .i64 a0, .int .i64 b0, .int .i64 d0, .bool st] W fun e w' => e = .returned (.bool true) ∧ Below W.heap.size W w' := by
  obtain ⟨p, hp⟩ : ∃ p, p = mkP g1 (min n1 60) := ⟨_, rfl⟩
  have HPI := hid (show Pinv p 60 from by rw [hp]; exact (mkP_inv g1 _).mono (by omega))
  have HPW := hid (show Pw p from by rw [hp]; exact mk_pw g1 _)
  have MK := hid (fun (w : World) (hb : Below W.heap.size W w) => (show Calls Tryz.prog 9 #[.slice A1 n1 c1, .int .i64 60] w fun x w' => x = .returned (.agg (FA 330 (pc p))) ∧ Below w.heap.size w w' from by rw [hp]; exact mk_top W A1 n1 c1 g1 hr1 hl1 hn1 hc1 60 (by decide) w hb))
  clear hp hr1 hl1 hg1 re1 hn1 hc1
  have S0 : Hid (HS [] W W []) := hid HS.start
  obtain ⟨f, hf⟩ : ∃ f, f = flN a0 b0 := ⟨_, rfl⟩
  have hfI : f.I := by rw [hf]; exact flN_I_ _ _
  have FLW := hid (fun (w : World) => (show Calls Tryz.prog 10 #[.int .i64 a0, .int .i64 b0] w fun e w' => e = .returned (.agg #[.int .i64 f.a, .int .i64 f.p, .int .i64 f.ta, .int .i64 f.tp]) ∧ Below w.heap.size w w' from by rw [hf]; exact lflow_any a0 b0 w ⟨by omega, by omega⟩ ⟨by omega, by omega⟩))
  clear hf
  have KYC := hid (fun (w : World) (e : Int) => (show Calls Tryz.prog 14 #[.agg #[.int .i64 p.r.e, .int .u64 p.r.p.a, .int .u64 p.r.p.b, .int .u64 p.r.c.a, .int .u64 p.r.c.b, .int .u64 p.r.n.a, .int .u64 p.r.n.b], .int .i64 e] w fun e' w' => e' = .returned (kyO (keyOf p.r e)) ∧ Below w.heap.size w w' from key_any p.r e (by have := HPI.out.2.1; exact ⟨by omega, by omega⟩) w))
  obtain ⟨s, hs⟩ : ∃ x, x = wi a0 64 := ⟨_, rfl⟩
  have bs := wi_bd a0 64 (by omega)
  rw [← hs] at bs
  have Ws := hid (fun w => re_i64 (within_any a0 64 w (by omega) (by omega)) hs.symm)
  clear hs
  obtain ⟨bs1, bs2⟩ := bs
  cases st
  · have MKC := hid (fun (w : World) (s : Int) (hs : 0 ≤ s ∧ s < 64) => (show Calls Tryz.prog 11 #[.agg #[.int .i64 p.r.e, .int .u64 p.r.p.a, .int .u64 p.r.p.b, .int .u64 p.r.c.a, .int .u64 p.r.c.b, .int .u64 p.r.n.a, .int .u64 p.r.n.b], .int .i64 2, .agg #[.int .i64 f.a, .int .i64 f.p, .int .i64 f.ta, .int .i64 f.tp], .int .i64 s] w fun e w' => e = .returned (.int .i64 (cok 256 p.r.c 2 f s (p.r.e % 4))) ∧ Below w.heap.size w w' from cmake2 p.r f s hfI hs w))
    have RDC := hid (fun (w : World) (c : Int) => (show Calls Tryz.prog 13 #[.agg #[.int .i64 p.r.e, .int .u64 p.r.p.a, .int .u64 p.r.p.b, .int .u64 p.r.c.a, .int .u64 p.r.c.b, .int .u64 p.r.n.a, .int .u64 p.r.n.b], .int .i64 2, .agg #[.int .i64 f.a, .int .i64 f.p, .int .i64 f.ta, .int .i64 f.tp], .int .i64 c] w fun e w' => e = .returned (.tuple #[.int .i64 ((readC 256 p.r 2 f c).getD 0), .bool (readC 256 p.r 2 f c).isSome]) ∧ Below w.heap.size w w' from read2 p.r f c hfI (by have := HPI.out.2.1; exact ⟨by omega, by omega⟩) w))
    obtain ⟨b, hb⟩ : ∃ x, x = wi d0 16 := ⟨_, rfl⟩
    have bb := wi_bd d0 16 (by omega)
    rw [← hb] at bb
    have Wb := hid (fun w => re_i64 (within_any d0 16 w (by omega) (by omega)) hb.symm)
    clear hb
    obtain ⟨bb1, bb2⟩ := bb
    obtain ⟨c, hc⟩ : ∃ c, c = cok 256 p.r.c 2 f s (p.r.e % 4) := ⟨_, rfl⟩
    have MK2 := hid (fun w => MKC.out w s ⟨bs1, bs2⟩)
    rw [← hc] at MK2
    clear MKC hc
    go_enter Tryz.func3, Tryz.ntmps3
    go_wp2_with fail
    refine (known_t _).mono ?_
    rintro e w1 ⟨rfl, hb⟩
    have S1 := hid (S0.out.below hb)
    clear hb
    go_simp
    go_wp2_with fail
    refine (MK.out _ S1.out.bl).mono ?_
    rintro e w2 ⟨rfl, hb⟩
    have S2 := hid (S1.out.below hb)
    clear hb S0 S1 MK
    go_simp
    go_upto_region 4 with (first | ((with_reducible refine wl_id ?_); refine wl_ow rfl (ow_alloc rfl (zpl2 _) (by omega) S2.out ?_); intro P w_ hZ _; have SA := hid hZ; clear hZ) | ((with_reducible refine wl_id ?_); refine wl_ow rfl (ow_store (A := []) 0 330 (pc p) (pc p) rfl rfl rfl SA.out (by omega) (fun j hj => patch_all _ _ _ j hj) info_pl2 (pc_one _) ?_); intro w_ hZ; have S3 := hid hZ; clear hZ))
    go_upto_region 7 with (fail)
    go_wp2_with fail
    refine (FLW.out _).mono ?_
    rintro e w4 ⟨rfl, hb⟩
    have S4 := hid (S3.out.below hb)
    clear hb S2 SA S3
    go_simp
    go_upto_region 8 with (first | ((with_reducible refine wl_id ?_); refine wl_ow rfl (ow_allocC rfl (zFl _) (by simp) S4.out ?_); intro F w_ hZ _; have SB := hid hZ; clear hZ) | ((with_reducible refine wl_id ?_); refine wl_ow rfl (ow_storeC (A := []) [.int .i64 f.a, .int .i64 f.p, .int .i64 f.ta, .int .i64 f.tp] rfl rfl (rfl) SB.out rfl iFl rfl ?_); intro w_ hZ; have S5 := hid hZ; clear hZ))
    have qb : IntKind.u64.wrap b = b := IntWalk.u64_in _ (by omega)
    refine wp_region_held_drew (S := fun (w' : World) => HS [] W w' [thC F [.int .i64 f.a, .int .i64 f.p, .int .i64 f.ta, .int .i64 f.tp], thB P 330 (pc p)]) (by kernel_rfl) ?_ (fun hHeld => ?_)
    · exact S5.out.drew
    refine tkq 0 hHeld ?_
    refine tkq 1 hHeld ?_ (hy := by intro w hSw; (try dsimp only at hSw); obtain ⟨r0, r1, r2, r3, r4, r5, r6⟩ := (pool_fb (hSw.fb 1 rfl)).r7; go_simp; (try with_reducible rfl))
    refine tkq 2 hHeld ?_
    refine tkq 3 hHeld ?_ (hy := by intro w hSw; (try dsimp only at hSw); obtain ⟨f0, f1, f2, f3⟩ := (hSw.ce 0 rfl).c4; go_simp; (try with_reducible rfl))
    refine tkq 4 hHeld ?_
    refine tkq 7 hHeld ?_
    refine tkq 8 hHeld ?_
    refine tkq 9 hHeld ?_
    refine only 5 rfl (by kernel_rfl) rfl (fun K hK => ?_)
    go_simp
    refine (Ws.out _).mono ?_
    rintro e w' ⟨rfl, rfl⟩
    try go_wp2_with fail
    refine hK.out _ _ (hHeld) (fun h6 => ?_)
    clear hK hHeld
    try simp only [Act.put, List.setIfInBounds_toArray, List.set_cons_zero, List.set_cons_succ]
    refine only 6 rfl (by kernel_rfl) rfl (fun K hK => ?_)
    go_simp
    refine (MK2.out _).mono ?_
    rintro e w6 ⟨rfl, hb⟩
    try go_wp2_with fail
    refine hK.out _ _ (h6.below hb) (fun h7 => ?_)
    clear hK h6 hb
    try simp only [Act.put, List.setIfInBounds_toArray, List.set_cons_zero, List.set_cons_succ]
    refine only 10 rfl (by kernel_rfl) rfl (fun K hK => ?_)
    go_simp
    refine (Wb.out _).mono ?_
    rintro e w' ⟨rfl, rfl⟩
    try go_wp2_with fail
    refine hK.out _ _ (h7) (fun h8 => ?_)
    clear hK h7
    try simp only [Act.put, List.setIfInBounds_toArray, List.set_cons_zero, List.set_cons_succ]
    refine tkq 11 h8 ?_
    refine tkq 12 h8 ?_
    refine tkq 13 h8 ?_
    refine tkq 14 h8 ?_
    have S8 := hid h8
    clear h8 S4 SB S5 MK2
    refine wpAnyH_done (by kernel_rfl) ?_ _
    go_upto_region 9 with (fail)
    generalize bits BinOp.xor IntKind.i64 c (IntKind.i64.wrap (2 ^ b.toNat)) = x at *
    obtain ⟨r0, r1, r2, r3, r4, r5, r6⟩ := (pool_fb (S8.out.fb 1 rfl)).r7
    obtain ⟨f0, f1, f2, f3⟩ := (S8.out.ce 0 rfl).c4
    go_wp2_with fail
    refine (RDC.out _ x).mono ?_
    rintro e w9 ⟨rfl, hb⟩
    have S9 := hid (S8.out.below hb)
    clear hb S8 RDC f0 f1 f2 f3 r0 r1 r2 r3 r4 r5 r6
    go_simp
    obtain ⟨o, ho⟩ : ∃ o, o = readC 256 p.r 2 f x := ⟨_, rfl⟩
    rw [← ho]
    cases o with
    | none =>
      dsimp only [Option.getD, Option.isSome]
      go_wp2_with fail
      go_ret
      exact ⟨rfl, S9.out.bl⟩
    | some v =>
      obtain ⟨x0, x1, k, hk, hw, v0, v1⟩ := read_tag (by first | exact .inl rfl | exact .inr rfl) ho.symm
      have qd : x / (64 * 256) = x / 16384 := rfl
      have KYC2 := hid (fun w => KYC.out w (x / 16384))
      rw [qd] at hk hw
      rw [hk] at KYC2
      unfold kyO kyV at KYC2
      dsimp only [Option.getD, Option.isSome] at KYC2
      have WD := hid (fun (A : Option Addr) (w : World) (h : Is w A 7 (fun j => [2, f.a, f.p, f.ta, f.tp, v, x / 16384].getD j 0)) => words_any k.a k.b A 7 7 _ w h (seven_I hfI ⟨by decide, by decide⟩ ⟨by omega, by omega⟩ ⟨by omega, by omega⟩) (by decide))
      have hU : U (W7 k 2 f v (x / 16384)) := W7_U _ _ _ _ _
      change W7 k 2 f v (x / 16384) % 256 = x % 256 at hw
      have WD2 : Hid (∀ A w, Is w A 7 (fun j => [2, f.a, f.p, f.ta, f.tp, v, x / 16384].getD j 0) → Calls Tryz.prog 15 #[.agg #[.int .u64 k.a, .int .u64 k.b], .slice A 7 7] w fun e w' => e = .returned (.int .u64 (W7 k 2 f v (x / 16384))) ∧ Below w.heap.size w w') := hid (fun A w h => WD.out A w h)
      generalize W7 k 2 f v (x / 16384) = u at *
      have ua := uand u 8 (by decide) hU
      have xa := mand255 x
      rw [show (2 : Int) ^ 8 = 256 by decide] at ua
      rw [show (256 : Int) - 1 = 255 by decide] at ua
      obtain ⟨u0, u1⟩ := hU
      have qu : IntKind.i64.wrap (u % 256) = u % 256 := IntWalk.i64_in _ (by omega)
      have heq : (u % 256 == x % 256) = true := by rw [hw]; simp
      clear hw hk qd ho WD KYC
      obtain ⟨r0, r1, r2, r3, r4, r5, r6⟩ := (pool_fb (S9.out.fb 1 rfl)).r7
      dsimp only [Option.getD, Option.isSome]
      go_wp2_with fail
      refine (KYC2.out _).mono ?_
      rintro e w10 ⟨rfl, hb⟩
      have S10 := hid (S9.out.below hb)
      clear hb S9 KYC2 r0 r1 r2 r3 r4 r5 r6
      go_simp
      go_upto_region 13 with (first | ((with_reducible refine wl_id ?_); refine wl_ow rfl (ow_allocC rfl (zKyC _) (by simp) S10.out ?_); intro G w_ hZ _; have S11 := hid hZ; clear hZ) | ((with_reducible refine wl_id ?_); refine wl_ow rfl (ow_storeC (A := []) [.int .u64 k.a, .int .u64 k.b] rfl rfl (rfl) S11.out rfl iKyC rfl ?_); intro w_ hZ; have S12 := hid hZ; clear hZ))
      obtain ⟨k0, k1⟩ := (S12.out.ce 0 rfl).c2
      obtain ⟨f0, f1, f2, f3⟩ := (S12.out.ce 1 rfl).c4
      go_wp2_with fail
      refine (WD2.out _ _ (Ce.sl [2, f.a, f.p, f.ta, f.tp, v, x / 16384] (Ce.made rfl))).mono ?_
      rintro e w13 ⟨rfl, hb⟩
      have S13 := hid ((S12.out.alloc _).below hb)
      clear hb S10 S11 S12 WD2 k0 k1 f0 f1 f2 f3
      go_simp
      go_wp2_with fail
      go_ret
      exact ⟨rfl, S13.out.bl⟩
  · have MKC := hid (fun (w : World) (s : Int) (hs : 0 ≤ s ∧ s < 64) => (show Calls Tryz.prog 11 #[.agg #[.int .i64 p.r.e, .int .u64 p.r.p.a, .int .u64 p.r.p.b, .int .u64 p.r.c.a, .int .u64 p.r.c.b, .int .u64 p.r.n.a, .int .u64 p.r.n.b], .int .i64 1, .agg #[.int .i64 f.a, .int .i64 f.p, .int .i64 f.ta, .int .i64 f.tp], .int .i64 s] w fun e w' => e = .returned (.int .i64 (cok 4096 p.r.c 1 f s (p.r.e % 4))) ∧ Below w.heap.size w w' from cmake1 p.r f s hfI hs w))
    have RDC := hid (fun (w : World) (c : Int) => (show Calls Tryz.prog 13 #[.agg #[.int .i64 p.r.e, .int .u64 p.r.p.a, .int .u64 p.r.p.b, .int .u64 p.r.c.a, .int .u64 p.r.c.b, .int .u64 p.r.n.a, .int .u64 p.r.n.b], .int .i64 1, .agg #[.int .i64 f.a, .int .i64 f.p, .int .i64 f.ta, .int .i64 f.tp], .int .i64 c] w fun e w' => e = .returned (.tuple #[.int .i64 ((readC 4096 p.r 1 f c).getD 0), .bool (readC 4096 p.r 1 f c).isSome]) ∧ Below w.heap.size w w' from read1 p.r f c hfI (by have := HPI.out.2.1; exact ⟨by omega, by omega⟩) w))
    obtain ⟨b, hb⟩ : ∃ x, x = wi d0 20 := ⟨_, rfl⟩
    have bb := wi_bd d0 20 (by omega)
    rw [← hb] at bb
    have Wb := hid (fun w => re_i64 (within_any d0 20 w (by omega) (by omega)) hb.symm)
    clear hb
    obtain ⟨bb1, bb2⟩ := bb
    obtain ⟨c, hc⟩ : ∃ c, c = cok 4096 p.r.c 1 f s (p.r.e % 4) := ⟨_, rfl⟩
    have MK2 := hid (fun w => MKC.out w s ⟨bs1, bs2⟩)
    rw [← hc] at MK2
    clear MKC hc
    go_enter Tryz.func3, Tryz.ntmps3
    go_wp2_with fail
    refine (known_t _).mono ?_
    rintro e w1 ⟨rfl, hb⟩
    have S1 := hid (S0.out.below hb)
    clear hb
    go_simp
    go_wp2_with fail
    refine (MK.out _ S1.out.bl).mono ?_
    rintro e w2 ⟨rfl, hb⟩
    have S2 := hid (S1.out.below hb)
    clear hb S0 S1 MK
    go_simp
    go_upto_region 4 with (first | ((with_reducible refine wl_id ?_); refine wl_ow rfl (ow_alloc rfl (zpl2 _) (by omega) S2.out ?_); intro P w_ hZ _; have SA := hid hZ; clear hZ) | ((with_reducible refine wl_id ?_); refine wl_ow rfl (ow_store (A := []) 0 330 (pc p) (pc p) rfl rfl rfl SA.out (by omega) (fun j hj => patch_all _ _ _ j hj) info_pl2 (pc_one _) ?_); intro w_ hZ; have S3 := hid hZ; clear hZ))
    go_upto_region 7 with (fail)
    go_wp2_with fail
    refine (FLW.out _).mono ?_
    rintro e w4 ⟨rfl, hb⟩
    have S4 := hid (S3.out.below hb)
    clear hb S2 SA S3
    go_simp
    go_upto_region 8 with (first | ((with_reducible refine wl_id ?_); refine wl_ow rfl (ow_allocC rfl (zFl _) (by simp) S4.out ?_); intro F w_ hZ _; have SB := hid hZ; clear hZ) | ((with_reducible refine wl_id ?_); refine wl_ow rfl (ow_storeC (A := []) [.int .i64 f.a, .int .i64 f.p, .int .i64 f.ta, .int .i64 f.tp] rfl rfl (rfl) SB.out rfl iFl rfl ?_); intro w_ hZ; have S5 := hid hZ; clear hZ))
    have qb : IntKind.u64.wrap b = b := IntWalk.u64_in _ (by omega)
    refine wp_region_held_drew (S := fun (w' : World) => HS [] W w' [thC F [.int .i64 f.a, .int .i64 f.p, .int .i64 f.ta, .int .i64 f.tp], thB P 330 (pc p)]) (by kernel_rfl) ?_ (fun hHeld => ?_)
    · exact S5.out.drew
    refine tkq 0 hHeld ?_
    refine tkq 1 hHeld ?_ (hy := by intro w hSw; (try dsimp only at hSw); obtain ⟨r0, r1, r2, r3, r4, r5, r6⟩ := (pool_fb (hSw.fb 1 rfl)).r7; go_simp; (try with_reducible rfl))
    refine tkq 2 hHeld ?_
    refine tkq 3 hHeld ?_ (hy := by intro w hSw; (try dsimp only at hSw); obtain ⟨f0, f1, f2, f3⟩ := (hSw.ce 0 rfl).c4; go_simp; (try with_reducible rfl))
    refine tkq 4 hHeld ?_
    refine tkq 7 hHeld ?_
    refine tkq 8 hHeld ?_
    refine tkq 9 hHeld ?_
    refine only 5 rfl (by kernel_rfl) rfl (fun K hK => ?_)
    go_simp
    refine (Ws.out _).mono ?_
    rintro e w' ⟨rfl, rfl⟩
    try go_wp2_with fail
    refine hK.out _ _ (hHeld) (fun h6 => ?_)
    clear hK hHeld
    try simp only [Act.put, List.setIfInBounds_toArray, List.set_cons_zero, List.set_cons_succ]
    refine only 6 rfl (by kernel_rfl) rfl (fun K hK => ?_)
    go_simp
    refine (MK2.out _).mono ?_
    rintro e w6 ⟨rfl, hb⟩
    try go_wp2_with fail
    refine hK.out _ _ (h6.below hb) (fun h7 => ?_)
    clear hK h6 hb
    try simp only [Act.put, List.setIfInBounds_toArray, List.set_cons_zero, List.set_cons_succ]
    refine only 10 rfl (by kernel_rfl) rfl (fun K hK => ?_)
    go_simp
    refine (Wb.out _).mono ?_
    rintro e w' ⟨rfl, rfl⟩
    try go_wp2_with fail
    refine hK.out _ _ (h7) (fun h8 => ?_)
    clear hK h7
    try simp only [Act.put, List.setIfInBounds_toArray, List.set_cons_zero, List.set_cons_succ]
    refine tkq 11 h8 ?_
    refine tkq 12 h8 ?_
    refine tkq 13 h8 ?_
    refine tkq 14 h8 ?_
    have S8 := hid h8
    clear h8 S4 SB S5 MK2
    refine wpAnyH_done (by kernel_rfl) ?_ _
    go_upto_region 9 with (fail)
    generalize bits BinOp.xor IntKind.i64 c (IntKind.i64.wrap (2 ^ b.toNat)) = x at *
    obtain ⟨r0, r1, r2, r3, r4, r5, r6⟩ := (pool_fb (S8.out.fb 1 rfl)).r7
    obtain ⟨f0, f1, f2, f3⟩ := (S8.out.ce 0 rfl).c4
    go_wp2_with fail
    refine (RDC.out _ x).mono ?_
    rintro e w9 ⟨rfl, hb⟩
    have S9 := hid (S8.out.below hb)
    clear hb S8 RDC f0 f1 f2 f3 r0 r1 r2 r3 r4 r5 r6
    go_simp
    obtain ⟨o, ho⟩ : ∃ o, o = readC 4096 p.r 1 f x := ⟨_, rfl⟩
    rw [← ho]
    cases o with
    | none =>
      dsimp only [Option.getD, Option.isSome]
      go_wp2_with fail
      go_ret
      exact ⟨rfl, S9.out.bl⟩
    | some v =>
      obtain ⟨x0, x1, k, hk, hw, v0, v1⟩ := read_tag (by first | exact .inl rfl | exact .inr rfl) ho.symm
      have qd : x / (64 * 4096) = x / 262144 := rfl
      have KYC2 := hid (fun w => KYC.out w (x / 262144))
      rw [qd] at hk hw
      rw [hk] at KYC2
      unfold kyO kyV at KYC2
      dsimp only [Option.getD, Option.isSome] at KYC2
      have WD := hid (fun (A : Option Addr) (w : World) (h : Is w A 7 (fun j => [1, f.a, f.p, f.ta, f.tp, v, x / 262144].getD j 0)) => words_any k.a k.b A 7 7 _ w h (seven_I hfI ⟨by decide, by decide⟩ ⟨by omega, by omega⟩ ⟨by omega, by omega⟩) (by decide))
      have hU : U (W7 k 1 f v (x / 262144)) := W7_U _ _ _ _ _
      change W7 k 1 f v (x / 262144) % 4096 = x % 4096 at hw
      have WD2 : Hid (∀ A w, Is w A 7 (fun j => [1, f.a, f.p, f.ta, f.tp, v, x / 262144].getD j 0) → Calls Tryz.prog 15 #[.agg #[.int .u64 k.a, .int .u64 k.b], .slice A 7 7] w fun e w' => e = .returned (.int .u64 (W7 k 1 f v (x / 262144))) ∧ Below w.heap.size w w') := hid (fun A w h => WD.out A w h)
      generalize W7 k 1 f v (x / 262144) = u at *
      have ua := uand u 12 (by decide) hU
      have xa := mand4095 x
      rw [show (2 : Int) ^ 12 = 4096 by decide] at ua
      rw [show (4096 : Int) - 1 = 4095 by decide] at ua
      obtain ⟨u0, u1⟩ := hU
      have qu : IntKind.i64.wrap (u % 4096) = u % 4096 := IntWalk.i64_in _ (by omega)
      have heq : (u % 4096 == x % 4096) = true := by rw [hw]; simp
      clear hw hk qd ho WD KYC
      obtain ⟨r0, r1, r2, r3, r4, r5, r6⟩ := (pool_fb (S9.out.fb 1 rfl)).r7
      dsimp only [Option.getD, Option.isSome]
      go_wp2_with fail
      refine (KYC2.out _).mono ?_
      rintro e w10 ⟨rfl, hb⟩
      have S10 := hid (S9.out.below hb)
      clear hb S9 KYC2 r0 r1 r2 r3 r4 r5 r6
      go_simp
      go_upto_region 13 with (first | ((with_reducible refine wl_id ?_); refine wl_ow rfl (ow_allocC rfl (zKyC _) (by simp) S10.out ?_); intro G w_ hZ _; have S11 := hid hZ; clear hZ) | ((with_reducible refine wl_id ?_); refine wl_ow rfl (ow_storeC (A := []) [.int .u64 k.a, .int .u64 k.b] rfl rfl (rfl) S11.out rfl iKyC rfl ?_); intro w_ hZ; have S12 := hid hZ; clear hZ))
      obtain ⟨k0, k1⟩ := (S12.out.ce 0 rfl).c2
      obtain ⟨f0, f1, f2, f3⟩ := (S12.out.ce 1 rfl).c4
      go_wp2_with fail
      refine (WD2.out _ _ (Ce.sl [1, f.a, f.p, f.ta, f.tp, v, x / 262144] (Ce.made rfl))).mono ?_
      rintro e w13 ⟨rfl, hb⟩
      have S13 := hid ((S12.out.alloc _).below hb)
      clear hb S10 S11 S12 WD2 k0 k1 f0 f1 f2 f3
      go_simp
      go_wp2_with fail
      go_ret
      exact ⟨rfl, S13.out.bl⟩

set_option maxRecDepth 100000 in
theorem lifted (os : Os) (started : os.Started) (H : Type) (enc : TypeId × Value → H) :
    ReturnsInHanded {} Tryz.checked os 3 .any (Rows.topKeysSpec.pre6 enc Tryz.prog Tryz.f3 [] false) (Rows.topKeysSpec.post enc Tryz.prog Tryz.f3 false true false false) :=
  law_step (s := Rows.topKeysSpec) started (by kernel_rfl) Tryz.func3
    (ChangeSpec.witness6 (s := Rows.topKeysSpec) (enc := enc) (C := Tryz.checked) false ⟨#[], #[.slice none 0 0, .int .i64 0, .int .i64 0, .int .i64 0, .bool false], []⟩ 8 (by kernel_rfl) (by kernel_rfl) (by kernel_rfl) (by kernel_rfl))
    rfl (by rw [Tryz.params3]; decide +kernel) rfl Tryz.underlying4
    (fun ds h => by
      rw [Tryz.params3] at h
      match ds, h with
      | [_, _, _, _, _], _ => rfl)
    (fun W base args ds ps hval hA hsz => by
      rw [Tryz.params3] at hA hval hsz
      obtain ⟨v0, vs0, d0, ds0, p0, q0, hargs, rfl, rfl, h0, r0⟩ := trodAll_cons hA
      obtain ⟨v1, vs1, d1, ds1, p1, q1, rfl, rfl, rfl, h1, r1⟩ := trodAll_cons r0
      obtain ⟨v2, vs2, d2, ds2, p2, q2, rfl, rfl, rfl, h2, r2⟩ := trodAll_cons r1
      obtain ⟨v3, vs3, d3, ds3, p3, q3, rfl, rfl, rfl, h3, r3⟩ := trodAll_cons r2
      obtain ⟨v4, vs4, d4, ds4, p4, q4, rfl, rfl, rfl, h4, r4⟩ := trodAll_cons r3
      obtain ⟨rfl, rfl, rfl⟩ := trodAll_nil r4
      obtain rfl : args = #[v0, v1, v2, v3, v4] := by cases args; simp_all
      obtain ⟨A0, n0, c0, g0, rfl, hn0, hc0, hs0, hw0, hl0, hd0⟩ := open_row Tryz.underlying22 Tryz.underlying3 (by kernel_rfl) (hval 0 22 v0 rfl rfl) h0
      have re0 : c0 * 8 ≤ 140737488351232 := by
        rcases hd0 with ⟨_, h0⟩ | ⟨xs, ys, h1, h2⟩
        · omega
        · have := sized_slice hsz (j := 0) (t := 22) (e := 3) rfl (by rw [h1]; rfl) Tryz.underlying22
          rw [h2, show Tryz.prog.bytesOf 3 = 8 from by kernel_rfl] at this
          simpa [reachBytes] using this
      obtain ⟨a1, rfl, rfl, rfl, w1⟩ := open_int Tryz.underlying3 (hval 1 3 v1 rfl rfl) h1
      obtain ⟨a2, rfl, rfl, rfl, w2⟩ := open_int Tryz.underlying3 (hval 2 3 v2 rfl rfl) h2
      obtain ⟨a3, rfl, rfl, rfl, w3⟩ := open_int Tryz.underlying3 (hval 3 3 v3 rfl rfl) h3
      obtain ⟨a4, rfl, rfl, rfl⟩ := open_bool Tryz.underlying4 (hval 4 4 v4 rfl rfl) h4
      exact walk W A0 n0 c0 g0 hn0 hc0 hs0 (fun j => bounds_i64 (hw0 j)) hl0 re0 a1 (bounds_i64 w1) a2 (bounds_i64 w2) a3 (bounds_i64 w3) a4)

theorem proved : Rows.TopKeysSaid :=
  OpenClaim.holds_of_wide 3 Tryz.f3 rfl rfl rfl rfl rfl rfl rfl ⟨rfl, rfl, rfl, rfl, rfl⟩ rfl rfl rfl rfl rfl (by kernel_rfl) Tryz.func3 (by kernel_rfl)
    (of_decide_eq_true (by kernel_rfl)) (by unfold Func.isWrapper; first | (rw [if_pos (by decide +kernel)]; kernel_rfl) | (rw [if_neg (by decide +kernel)]; exact ⟨rfl, rfl⟩))
    (fun os started H enc _ => lifted os started H enc)
end Go.Proofs.YthgffpfigmibhaaGreat.topKeys
