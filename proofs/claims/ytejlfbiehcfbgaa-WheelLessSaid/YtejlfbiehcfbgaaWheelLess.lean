/- roundhouselaw7.WheelLess answers true for every row, any three numbers; no condition. -/
import Derived.Test.YtejlfbiehcfbgaaWhlLaw2
import Derived.BigQuiet
import Derived.Deep.RegionHeld3
import Derived.Deep.Cut
namespace Go.Proofs.Ytejlfbiehcfbgaa.wheelLess
set_option linter.unusedVariables false
set_option linter.unusedSimpArgs false
open Go.RowKit Go.ChangeShapes Go.WideShapes Go.ChangeAt

attribute [local irreducible] PA ia cAt cBy atP byP wtP S3 sumW S5 pkW
set_option maxRecDepth 100000 in
set_option maxHeartbeats 8000000 in
theorem walk (W : World) (A1 : Option Addr) (n1 c1 : Nat) (g1 : Nat → Int) (hn1 : n1 ≤ c1) (hc1 : c1 ≤ maxLen) (hr1 : Is W A1 n1 g1) (hg1 : IsI g1) (hl1 : ∀ ad, A1 = some ad → 0 < n1 → ad.block < W.heap.size) (re1 : c1 * 8 ≤ 140737488351232) (a0 : Int) (r_a0 : -9223372036854775808 ≤ a0 ∧ a0 ≤ 9223372036854775807) (b0 : Int) (r_b0 : -9223372036854775808 ≤ b0 ∧ b0 ≤ 9223372036854775807) (c0 : Int) (r_c0 : -9223372036854775808 ≤ c0 ∧ c0 ≤ 9223372036854775807) :
    Calls Try.prog 10 #[.slice A1 n1 c1, .int .i64 a0, .int .i64 b0, .int .i64 c0] W fun e w' => e = .returned (.bool true) ∧ Below W.heap.size W w' := by
  have hz : ∀ w : World, (zeroValue 33).run Try.prog w = .ok (.agg (PA zPl)) w := fun w => zero_pl w
  have hz1 := pa_size zPl
  have hz2 := pa_ne zPl
  unfold maxLen at hc1
  have hnm : (n1 : Int) ≤ 9223372036854775807 := by have := hn1; omega
  have HL := hid hl1
  clear hl1 re1
  obtain ⟨p, hp⟩ : ∃ p, p = mkP g1 (min n1 60) := ⟨_, rfl⟩
  have HQ := hid (show Pinv p 60 from by rw [hp]; exact (mkP_inv g1 _).mono (by omega))
  have HPW := hid (show Pw p from by rw [hp]; exact mk_pw g1 _)
  have MK := hid (fun (w : World) (h : Is w A1 n1 g1) (hl : ∀ ad, A1 = some ad → 0 < n1 → ad.block < w.heap.size) => (show Calls Try.prog 14 #[.slice A1 n1 c1, .int .i64 60] w fun x w' => x = .returned (.agg (PA p)) ∧ Below w.heap.size w w' from by rw [hp]; exact make_any w A1 n1 c1 g1 h hl hnm 60 (by omega)))
  clear hp
  obtain ⟨s0, hs0⟩ : ∃ x, x = wi a0 6 := ⟨_, rfl⟩
  have bs0 := wi_bd a0 6 (by omega)
  rw [← hs0] at bs0
  have Ws0 := hid (fun w => re_i64 (within_any a0 6 w (by omega) (by omega)) hs0.symm)
  clear hs0
  obtain ⟨bs01, bs02⟩ := bs0
  obtain ⟨c, rfl⟩ : ∃ c : Nat, s0 = c := ⟨s0.toNat, by omega⟩
  have c64 : c < 64 := by omega
  have i64 : (c : Int) < 64 := by omega
  have i0 : (0 : Int) ≤ c := by omega
  obtain ⟨f, hf⟩ : ∃ f, f = flN b0 c0 := ⟨_, rfl⟩
  have FOK := fl_ok b0 c0
  have LF0 := fun w => lflow_any b0 c0 w ⟨by omega, by omega⟩ ⟨by omega, by omega⟩
  rw [← hf] at FOK LF0
  clear hf
  have PK := hid (fun (B : Nat) (w : World) (g : Nat → Int) (h : IA w B 127 g) => pick_any (some ⟨B, 0, none⟩) 127 g f FOK w h.slice)
  have hpb := pkW_bd f
  obtain ⟨j, hj⟩ : ∃ j : Nat, (pkW f).toNat = j := ⟨_, rfl⟩
  have j127 : j < 127 := by omega
  rw [hj] at PK
  have HJ := hid hj
  clear hj hpb FOK
  obtain ⟨fa, fp, ft, fq⟩ := f
  unfold flV at LF0 PK
  simp only at LF0 PK
  have LF := hid LF0
  clear LF0
  have hcs : (∃ q : Pl, (p.s c).st = 2 ∧ apR p ⟨3, (c : Int), 0, 0, 0, zKy⟩ = (q, 0) ∧ Pw q ∧ (q.s c).st ≠ 2) ∨ (p.s c).st ≠ 2 := by
    by_cases h : (p.s c).st = 2
    · have hd := drain_ok c64 h
      refine .inl ⟨_, h, hd, ?_, by rw [drain_st]; decide⟩
      have := HPW.out.step (e := ⟨3, (c : Int), 0, 0, 0, zKy⟩) (by rw [hd])
      rw [hd] at this
      exact this
    · exact .inr h
  rcases hcs with ⟨q, hst, hap, hqw, hqs⟩ | hst
  · have HQW := hid hqw
    have b2 : ((p.s c).st == 2) = true := by rw [hst]; rfl
    have AP := hid (show ∀ w, Calls Try.prog 24 #[.agg (PA p), .agg #[.int .i64 3, .int .i64 (c : Int), .int .i64 0, .int .i64 0, .int .i64 0, .int .u64 0, .int .u64 0]] w fun x w' => x = .returned (.tuple #[.agg (PA q), .int .i64 0]) ∧ Below w.heap.size w w' from fun w => re_v (rapply_any p ⟨3, (c : Int), 0, 0, 0, zKy⟩ (HQ.out.pb (by omega)) w) (by rw [hap]; rfl))
    clear hap hqw hst
    have M7 := hid (show ∀ w, Calls Try.prog 15 #[.agg (PA q)] w fun x w' => ∃ B : Nat, x = .returned (.slice (some ⟨B, 0, none⟩) 127 127) ∧ w.heap.size ≤ B ∧ IA w' B 127 (whlW q) ∧ Below w.heap.size w w' from fun w => make7_any q HQW.out w)
    have hcn := whl_not (p := q) hqs
    have SH := hid (fun (B : Nat) (w : World) (h : IA w B 127 (whlW q)) => re_i64 (share_any (some ⟨B, 0, none⟩) 127 127 (whlW q) (c : Int) ⟨by omega, by omega⟩ w h.slice (by decide)) (show ((cnW (whlW q) (c : Int) 127 : Nat) : Int) = 0 from by rw [hcn]; rfl))
    clear hcn
    have hv := whl_val (p := q) j127
    obtain ⟨pv, hpv⟩ : ∃ v, v = whlW q j := ⟨_, rfl⟩
    have HPV := hid hpv
    rw [← hpv] at hv
    clear hpv
    have PK2 := hid (fun (B : Nat) (w : World) (h : IA w B 127 (whlW q)) => (show Calls Try.prog 18 #[.slice (some ⟨B, 0, none⟩) 127 127, .agg #[.int .i64 fa, .int .i64 fp, .int .i64 ft, .int .i64 fq]] w fun e w' => e = .returned (.int .i64 pv) ∧ Below w.heap.size w w' from by rw [HPV.out]; exact PK B w _ h))
    clear PK HPV
    rcases hv with ⟨hT, rfl⟩ | ⟨hT, i, h64, hsi, rfl⟩
    · clear hT
      have bc : ((-1 : Int) != (c : Int)) = true := by rw [bne_iff_ne]; omega
      clear hqs
      go_enter Try.func10, Try.ntmps10
      go_wp2_with fail
      refine (known7_any _).mono ?_
      rintro x w1 ⟨rfl, hB⟩
      have R1 := hid (hr1.below hB (Nat.le_refl _))
      have B1 := hid hB
      clear hr1 hB
      go_wp2_with fail
      refine (MK.out _ R1.out (fun ad e h => Nat.lt_of_lt_of_le (HL.out ad e h) B1.out.size)).mono ?_
      rintro x w2 ⟨rfl, hb⟩
      have S2 := hid ((SG.start B1.out).below hb)
      clear hb R1 B1 MK
      have ST := hid ((sg_new (w := w2) (T := 33)).storeA p)
      have S3 := hid (SG.put S2.out (T := 33) zPl p (by simp))
      have lP := S2.out.bl.size
      go_upto_region 4 with ((with_reducible refine wl_id ?_); refine wl_store rfl rfl rfl rfl ST.out ?_)
      clear ST S2
      generalize (w2.alloc (.cells (PA zPl) 33)).setCells w2.heap.size 0 (PA p).toList = w3 at *
      generalize w2.heap.size = P at *
      go_wp2_with fail
      refine (Ws0.out _).mono ?_
      rintro x w' ⟨rfl, rfl⟩
      have cst : w3.cell? ⟨P, 3 + c * 5, none⟩ = some (.int .i64 (p.s c).st) := (SG.get S3.out (b := P) (p := p) (by simp)).cs c 0 c64 (by omega)
      have LP := (SG.get S3.out (b := P) (p := p) (by simp)).loadA
      go_wp2_with ((with_reducible refine wl_id ?_); refine wl_load rfl rfl rfl LP ?_)
      clear LP cst
      refine (AP.out _).mono ?_
      rintro x w4 ⟨rfl, hb⟩
      have S4 := hid (S3.out.below hb)
      clear hb S3 AP
      have P4 := SG.get S4.out (b := P) (p := p) (by simp)
      skip
      have ST := hid (P4.storeA q)
      have S5 := hid ((SG.sets (S4.out.less (L' := []) (by simp)) (c := P) (o := 0) (vs := (PA q).toList) (by simp) (by simp) lP).cons (P4.whole q))
      clear P4
      go_upto_region 7 with ((with_reducible refine wl_id ?_); refine wl_store rfl rfl rfl rfl ST.out ?_)
      clear ST S4
      generalize w4.setCells P 0 (PA q).toList = w5 at *
      have LP := (SG.get S5.out (b := P) (p := q) (by simp)).loadA
      go_wp2_with ((with_reducible refine wl_id ?_); refine wl_load rfl rfl rfl LP ?_)
      refine (M7.out _).mono ?_
      rintro x w6 ⟨B, rfl, lB, hI, hb⟩
      clear LP
      have I6 := hid hI
      have S6 := hid (S5.out.below hb)
      clear hI hb S5 M7
      go_upto_region 8 with (fail)
      go_wp2_with fail
      refine (LF.out _).mono ?_
      rintro x w7 ⟨rfl, hb⟩
      have I7 := hid (I6.out.below hb)
      have S7 := hid (S6.out.below hb)
      clear hb I6 S6
      go_wp2_with fail
      refine (PK2.out B _ I7.out).mono ?_
      rintro x w8 ⟨rfl, hb⟩
      have I8 := hid (I7.out.below hb)
      have S8 := hid (S7.out.below hb)
      clear hb I7 S7
      go_wp2_with fail
      refine (SH.out B _ I8.out).mono ?_
      rintro x w' ⟨rfl, rfl⟩
      go_wp2_with fail
      go_ret
      exact ⟨rfl, S8.out.bl⟩
    · clear hT
      have hic : i ≠ c := fun e => hqs (by rw [← e]; exact hsi)
      have bc : ((i : Int) != (c : Int)) = true := by rw [bne_iff_ne]; omega
      have k0 : (0 : Int) ≤ i := by omega
      have k1 : (i : Int) < 64 := by omega
      have bm : ((i : Int) == -1) = false := by rw [beq_eq_false_iff_ne]; omega
      have HSI := hid hsi
      clear hic hqs hsi
      go_enter Try.func10, Try.ntmps10
      go_wp2_with fail
      refine (known7_any _).mono ?_
      rintro x w1 ⟨rfl, hB⟩
      have R1 := hid (hr1.below hB (Nat.le_refl _))
      have B1 := hid hB
      clear hr1 hB
      go_wp2_with fail
      refine (MK.out _ R1.out (fun ad e h => Nat.lt_of_lt_of_le (HL.out ad e h) B1.out.size)).mono ?_
      rintro x w2 ⟨rfl, hb⟩
      have S2 := hid ((SG.start B1.out).below hb)
      clear hb R1 B1 MK
      have ST := hid ((sg_new (w := w2) (T := 33)).storeA p)
      have S3 := hid (SG.put S2.out (T := 33) zPl p (by simp))
      have lP := S2.out.bl.size
      go_upto_region 4 with ((with_reducible refine wl_id ?_); refine wl_store rfl rfl rfl rfl ST.out ?_)
      clear ST S2
      generalize (w2.alloc (.cells (PA zPl) 33)).setCells w2.heap.size 0 (PA p).toList = w3 at *
      generalize w2.heap.size = P at *
      go_wp2_with fail
      refine (Ws0.out _).mono ?_
      rintro x w' ⟨rfl, rfl⟩
      have cst : w3.cell? ⟨P, 3 + c * 5, none⟩ = some (.int .i64 (p.s c).st) := (SG.get S3.out (b := P) (p := p) (by simp)).cs c 0 c64 (by omega)
      have LP := (SG.get S3.out (b := P) (p := p) (by simp)).loadA
      go_wp2_with ((with_reducible refine wl_id ?_); refine wl_load rfl rfl rfl LP ?_)
      clear LP cst
      refine (AP.out _).mono ?_
      rintro x w4 ⟨rfl, hb⟩
      have S4 := hid (S3.out.below hb)
      clear hb S3 AP
      have P4 := SG.get S4.out (b := P) (p := p) (by simp)
      skip
      have ST := hid (P4.storeA q)
      have S5 := hid ((SG.sets (S4.out.less (L' := []) (by simp)) (c := P) (o := 0) (vs := (PA q).toList) (by simp) (by simp) lP).cons (P4.whole q))
      clear P4
      go_upto_region 7 with ((with_reducible refine wl_id ?_); refine wl_store rfl rfl rfl rfl ST.out ?_)
      clear ST S4
      generalize w4.setCells P 0 (PA q).toList = w5 at *
      have LP := (SG.get S5.out (b := P) (p := q) (by simp)).loadA
      go_wp2_with ((with_reducible refine wl_id ?_); refine wl_load rfl rfl rfl LP ?_)
      refine (M7.out _).mono ?_
      rintro x w6 ⟨B, rfl, lB, hI, hb⟩
      clear LP
      have I6 := hid hI
      have S6 := hid (S5.out.below hb)
      clear hI hb S5 M7
      go_upto_region 8 with (fail)
      go_wp2_with fail
      refine (LF.out _).mono ?_
      rintro x w7 ⟨rfl, hb⟩
      have I7 := hid (I6.out.below hb)
      have S7 := hid (S6.out.below hb)
      clear hb I6 S6
      go_wp2_with fail
      refine (PK2.out B _ I7.out).mono ?_
      rintro x w8 ⟨rfl, hb⟩
      have I8 := hid (I7.out.below hb)
      have S8 := hid (S7.out.below hb)
      clear hb I7 S7
      go_wp2_with fail
      refine (SH.out B _ I8.out).mono ?_
      rintro x w' ⟨rfl, rfl⟩
      have cs : w8.cell? ⟨P, 3 + i * 5, none⟩ = some (.int .i64 2) := by have h := (SG.get S8.out (b := P) (p := q) (by simp)).cs i 0 h64 (by omega); simp only [spc] at h; rw [HSI.out] at h; exact h
      go_wp2_with fail
      go_ret
      exact ⟨rfl, S8.out.bl⟩
  · have HQW := HPW
    have b2 : ((p.s c).st == 2) = false := by rw [beq_eq_false_iff_ne]; exact hst
    have hqs := hst
    clear hst
    have M7 := hid (show ∀ w, Calls Try.prog 15 #[.agg (PA p)] w fun x w' => ∃ B : Nat, x = .returned (.slice (some ⟨B, 0, none⟩) 127 127) ∧ w.heap.size ≤ B ∧ IA w' B 127 (whlW p) ∧ Below w.heap.size w w' from fun w => make7_any p HQW.out w)
    have hcn := whl_not (p := p) hqs
    have SH := hid (fun (B : Nat) (w : World) (h : IA w B 127 (whlW p)) => re_i64 (share_any (some ⟨B, 0, none⟩) 127 127 (whlW p) (c : Int) ⟨by omega, by omega⟩ w h.slice (by decide)) (show ((cnW (whlW p) (c : Int) 127 : Nat) : Int) = 0 from by rw [hcn]; rfl))
    clear hcn
    have hv := whl_val (p := p) j127
    obtain ⟨pv, hpv⟩ : ∃ v, v = whlW p j := ⟨_, rfl⟩
    have HPV := hid hpv
    rw [← hpv] at hv
    clear hpv
    have PK2 := hid (fun (B : Nat) (w : World) (h : IA w B 127 (whlW p)) => (show Calls Try.prog 18 #[.slice (some ⟨B, 0, none⟩) 127 127, .agg #[.int .i64 fa, .int .i64 fp, .int .i64 ft, .int .i64 fq]] w fun e w' => e = .returned (.int .i64 pv) ∧ Below w.heap.size w w' from by rw [HPV.out]; exact PK B w _ h))
    clear PK HPV
    rcases hv with ⟨hT, rfl⟩ | ⟨hT, i, h64, hsi, rfl⟩
    · clear hT
      have bc : ((-1 : Int) != (c : Int)) = true := by rw [bne_iff_ne]; omega
      clear hqs
      go_enter Try.func10, Try.ntmps10
      go_wp2_with fail
      refine (known7_any _).mono ?_
      rintro x w1 ⟨rfl, hB⟩
      have R1 := hid (hr1.below hB (Nat.le_refl _))
      have B1 := hid hB
      clear hr1 hB
      go_wp2_with fail
      refine (MK.out _ R1.out (fun ad e h => Nat.lt_of_lt_of_le (HL.out ad e h) B1.out.size)).mono ?_
      rintro x w2 ⟨rfl, hb⟩
      have S2 := hid ((SG.start B1.out).below hb)
      clear hb R1 B1 MK
      have ST := hid ((sg_new (w := w2) (T := 33)).storeA p)
      have S3 := hid (SG.put S2.out (T := 33) zPl p (by simp))
      have lP := S2.out.bl.size
      go_upto_region 4 with ((with_reducible refine wl_id ?_); refine wl_store rfl rfl rfl rfl ST.out ?_)
      clear ST S2
      generalize (w2.alloc (.cells (PA zPl) 33)).setCells w2.heap.size 0 (PA p).toList = w3 at *
      generalize w2.heap.size = P at *
      go_wp2_with fail
      refine (Ws0.out _).mono ?_
      rintro x w' ⟨rfl, rfl⟩
      have cst : w3.cell? ⟨P, 3 + c * 5, none⟩ = some (.int .i64 (p.s c).st) := (SG.get S3.out (b := P) (p := p) (by simp)).cs c 0 c64 (by omega)
      go_upto_region 7 with (fail)
      clear cst
      have LP := (SG.get S3.out (b := P) (p := p) (by simp)).loadA
      go_wp2_with ((with_reducible refine wl_id ?_); refine wl_load rfl rfl rfl LP ?_)
      refine (M7.out _).mono ?_
      rintro x w4 ⟨B, rfl, lB, hI, hb⟩
      clear LP
      have I4 := hid hI
      have S4 := hid (S3.out.below hb)
      clear hI hb S3 M7
      go_upto_region 8 with (fail)
      go_wp2_with fail
      refine (LF.out _).mono ?_
      rintro x w5 ⟨rfl, hb⟩
      have I5 := hid (I4.out.below hb)
      have S5 := hid (S4.out.below hb)
      clear hb I4 S4
      go_wp2_with fail
      refine (PK2.out B _ I5.out).mono ?_
      rintro x w6 ⟨rfl, hb⟩
      have I6 := hid (I5.out.below hb)
      have S6 := hid (S5.out.below hb)
      clear hb I5 S5
      go_wp2_with fail
      refine (SH.out B _ I6.out).mono ?_
      rintro x w' ⟨rfl, rfl⟩
      go_wp2_with fail
      go_ret
      exact ⟨rfl, S6.out.bl⟩
    · clear hT
      have hic : i ≠ c := fun e => hqs (by rw [← e]; exact hsi)
      have bc : ((i : Int) != (c : Int)) = true := by rw [bne_iff_ne]; omega
      have k0 : (0 : Int) ≤ i := by omega
      have k1 : (i : Int) < 64 := by omega
      have bm : ((i : Int) == -1) = false := by rw [beq_eq_false_iff_ne]; omega
      have HSI := hid hsi
      clear hic hqs hsi
      go_enter Try.func10, Try.ntmps10
      go_wp2_with fail
      refine (known7_any _).mono ?_
      rintro x w1 ⟨rfl, hB⟩
      have R1 := hid (hr1.below hB (Nat.le_refl _))
      have B1 := hid hB
      clear hr1 hB
      go_wp2_with fail
      refine (MK.out _ R1.out (fun ad e h => Nat.lt_of_lt_of_le (HL.out ad e h) B1.out.size)).mono ?_
      rintro x w2 ⟨rfl, hb⟩
      have S2 := hid ((SG.start B1.out).below hb)
      clear hb R1 B1 MK
      have ST := hid ((sg_new (w := w2) (T := 33)).storeA p)
      have S3 := hid (SG.put S2.out (T := 33) zPl p (by simp))
      have lP := S2.out.bl.size
      go_upto_region 4 with ((with_reducible refine wl_id ?_); refine wl_store rfl rfl rfl rfl ST.out ?_)
      clear ST S2
      generalize (w2.alloc (.cells (PA zPl) 33)).setCells w2.heap.size 0 (PA p).toList = w3 at *
      generalize w2.heap.size = P at *
      go_wp2_with fail
      refine (Ws0.out _).mono ?_
      rintro x w' ⟨rfl, rfl⟩
      have cst : w3.cell? ⟨P, 3 + c * 5, none⟩ = some (.int .i64 (p.s c).st) := (SG.get S3.out (b := P) (p := p) (by simp)).cs c 0 c64 (by omega)
      go_upto_region 7 with (fail)
      clear cst
      have LP := (SG.get S3.out (b := P) (p := p) (by simp)).loadA
      go_wp2_with ((with_reducible refine wl_id ?_); refine wl_load rfl rfl rfl LP ?_)
      refine (M7.out _).mono ?_
      rintro x w4 ⟨B, rfl, lB, hI, hb⟩
      clear LP
      have I4 := hid hI
      have S4 := hid (S3.out.below hb)
      clear hI hb S3 M7
      go_upto_region 8 with (fail)
      go_wp2_with fail
      refine (LF.out _).mono ?_
      rintro x w5 ⟨rfl, hb⟩
      have I5 := hid (I4.out.below hb)
      have S5 := hid (S4.out.below hb)
      clear hb I4 S4
      go_wp2_with fail
      refine (PK2.out B _ I5.out).mono ?_
      rintro x w6 ⟨rfl, hb⟩
      have I6 := hid (I5.out.below hb)
      have S6 := hid (S5.out.below hb)
      clear hb I5 S5
      go_wp2_with fail
      refine (SH.out B _ I6.out).mono ?_
      rintro x w' ⟨rfl, rfl⟩
      have cs : w6.cell? ⟨P, 3 + i * 5, none⟩ = some (.int .i64 2) := by have h := (SG.get S6.out (b := P) (p := p) (by simp)).cs i 0 h64 (by omega); simp only [spc] at h; rw [HSI.out] at h; exact h
      go_wp2_with fail
      go_ret
      exact ⟨rfl, S6.out.bl⟩

set_option maxRecDepth 100000 in
theorem lifted (os : Os) (started : os.Started) (H : Type) (enc : TypeId × Value → H) :
    ReturnsInHanded {} Try.checked os 10 .any (Rows.wheelLessSpec.pre6 enc Try.prog Try.f10 [] false) (Rows.wheelLessSpec.post enc Try.prog Try.f10 false true false false) :=
  law_step (s := Rows.wheelLessSpec) started (by kernel_rfl) Try.func10
    (ChangeSpec.witness6 (s := Rows.wheelLessSpec) (enc := enc) (C := Try.checked) false ⟨#[], #[.slice none 0 0, .int .i64 0, .int .i64 0, .int .i64 0], []⟩ 8 (by kernel_rfl) (by kernel_rfl) (by kernel_rfl) (by kernel_rfl))
    rfl (by rw [Try.params10]; decide +kernel) rfl Try.underlying4
    (fun ds h => by
      rw [Try.params10] at h
      match ds, h with
      | [_, _, _, _], _ => rfl)
    (fun W base args ds ps hval hA hsz => by
      rw [Try.params10] at hA hval hsz
      obtain ⟨v0, vs0, d0, ds0, p0, q0, hargs, rfl, rfl, h0, r0⟩ := trodAll_cons hA
      obtain ⟨v1, vs1, d1, ds1, p1, q1, rfl, rfl, rfl, h1, r1⟩ := trodAll_cons r0
      obtain ⟨v2, vs2, d2, ds2, p2, q2, rfl, rfl, rfl, h2, r2⟩ := trodAll_cons r1
      obtain ⟨v3, vs3, d3, ds3, p3, q3, rfl, rfl, rfl, h3, r3⟩ := trodAll_cons r2
      obtain ⟨rfl, rfl, rfl⟩ := trodAll_nil r3
      obtain rfl : args = #[v0, v1, v2, v3] := by cases args; simp_all
      obtain ⟨A0, n0, c0, g0, rfl, hn0, hc0, hs0, hw0, hl0, hd0⟩ := open_row Try.underlying22 Try.underlying3 (by kernel_rfl) (hval 0 22 v0 rfl rfl) h0
      have re0 : c0 * 8 ≤ 140737488351232 := by
        rcases hd0 with ⟨_, h0⟩ | ⟨xs, ys, h1, h2⟩
        · omega
        · have := sized_slice hsz (j := 0) (t := 22) (e := 3) rfl (by rw [h1]; rfl) Try.underlying22
          rw [h2, show Try.prog.bytesOf 3 = 8 from by kernel_rfl] at this
          simpa [reachBytes] using this
      obtain ⟨a1, rfl, rfl, rfl, w1⟩ := open_int Try.underlying3 (hval 1 3 v1 rfl rfl) h1
      obtain ⟨a2, rfl, rfl, rfl, w2⟩ := open_int Try.underlying3 (hval 2 3 v2 rfl rfl) h2
      obtain ⟨a3, rfl, rfl, rfl, w3⟩ := open_int Try.underlying3 (hval 3 3 v3 rfl rfl) h3
      exact walk W A0 n0 c0 g0 hn0 hc0 hs0 (fun j => bounds_i64 (hw0 j)) hl0 re0 a1 (bounds_i64 w1) a2 (bounds_i64 w2) a3 (bounds_i64 w3))

theorem proved : Rows.WheelLessSaid :=
  OpenClaim.holds_of_wide 10 Try.f10 rfl rfl rfl rfl rfl rfl rfl ⟨rfl, rfl, rfl, rfl, rfl⟩ rfl rfl rfl rfl rfl (by kernel_rfl) Try.func10 (by kernel_rfl)
    (of_decide_eq_true (by kernel_rfl)) (by unfold Func.isWrapper; first | (rw [if_pos (by decide +kernel)]; kernel_rfl) | (rw [if_neg (by decide +kernel)]; exact ⟨rfl, rfl⟩))
    (fun os started H enc _ => lifted os started H enc)
end Go.Proofs.Ytejlfbiehcfbgaa.wheelLess
