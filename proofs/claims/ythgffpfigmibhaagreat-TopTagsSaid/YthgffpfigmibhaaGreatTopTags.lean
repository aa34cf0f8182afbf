/- roundhousetop.TopTags answers true for every row, any three numbers; no condition. -/
import Derived.Test.YthgffpfigmibhaaGreatGa
import Derived.Test.YthgffpfigmibhaaGreatGu
import Derived.Deep.LoopGhost
import Derived.Deep.CutRange
import Derived.BigQuiet
import Derived.Deep.RegionHeld3
import Derived.Deep.Cut
namespace Go.Proofs.YthgffpfigmibhaaGreat.topTags
set_option linter.unusedVariables false
set_option linter.unusedSimpArgs false
open Go.RowKit Go.ChangeShapes Go.WideShapes Go.ChangeAt

attribute [local irreducible] FA FL
set_option maxRecDepth 100000 in
set_option maxHeartbeats 8000000 in
theorem walk (W : World) (A1 : Option Addr) (n1 c1 : Nat) (g1 : Nat → Int) (hn1 : n1 ≤ c1) (hc1 : c1 ≤ maxLen) (hr1 : Is W A1 n1 g1) (hg1 : IsI g1) (hl1 : ∀ ad, A1 = some ad → 0 < n1 → ad.block < W.heap.size) (re1 : c1 * 8 ≤ 140737488351232) (a0 : Int) (r_a0 : -9223372036854775808 ≤ a0 ∧ a0 ≤ 9223372036854775807) (b0 : Int) (r_b0 : -9223372036854775808 ≤ b0 ∧ b0 ≤ 9223372036854775807) (d0 : Int) (r_d0 : -9223372036854775808 ≤ d0 ∧ d0 ≤ 9223372036854775807) :
    Calls Tryz.prog 4 #[.slice A1 n1 c1, .int .i64 a0, .int .i64 b0, .int .i64 d0] W fun e w' => e = .returned (.bool true) ∧ Below W.heap.size W w' := by
  obtain ⟨p, hp⟩ : ∃ p, p = mkP g1 (min n1 60) := ⟨_, rfl⟩
  have HPI := hid (show Pinv p 60 from by rw [hp]; exact (mkP_inv g1 _).mono (by omega))
  have HPW := hid (show Pw p from by rw [hp]; exact mk_pw g1 _)
  have MK := hid (fun (w : World) (hb : Below W.heap.size W w) => (show Calls Tryz.prog 9 #[.slice A1 n1 c1, .int .i64 60] w fun x w' => x = .returned (.agg (FA 330 (pc p))) ∧ Below w.heap.size w w' from by rw [hp]; exact mk_top W A1 n1 c1 g1 hr1 hl1 hn1 hc1 60 (by decide) w hb))
  clear hp hr1 hl1 hg1 re1 hn1 hc1
  have S0 : Hid (HS [] W W []) := hid HS.start
  obtain ⟨f, hf⟩ : ∃ f, f = flN a0 b0 := ⟨_, rfl⟩
  have hfI : f.I := by rw [hf]; exact flN_I_ _ _
  have FLW := hid (fun (w : World) => (show Calls Tryz.prog 10 #[.int .i64 a0, .int .i64 b0] w fun e w' => e = .returned (.agg #[.int .i64 f.a, .int .i64 f.p, .int .i64 f.ta, .int .i64 f.tp]) ∧ Below w.heap.size w w' from by rw [hf]; exact lflow_any a0 b0 w ⟨by omega, by omega⟩ ⟨by omega, by omega⟩))
  clear hf
  have MKC := hid (fun (w : World) (s : Int) (hs : 0 ≤ s ∧ s < 64) => (show Calls Tryz.prog 11 #[.agg #[.int .i64 p.r.e, .int .u64 p.r.p.a, .int .u64 p.r.p.b, .int .u64 p.r.c.a, .int .u64 p.r.c.b, .int .u64 p.r.n.a, .int .u64 p.r.n.b], .int .i64 2, .agg #[.int .i64 f.a, .int .i64 f.p, .int .i64 f.ta, .int .i64 f.tp], .int .i64 s] w fun e w' => e = .returned (.int .i64 (cok 256 p.r.c 2 f s (p.r.e % 4))) ∧ Below w.heap.size w w' from cmake2 p.r f s hfI hs w))
  have RDC := hid (fun (w : World) (c : Int) => (show Calls Tryz.prog 13 #[.agg #[.int .i64 p.r.e, .int .u64 p.r.p.a, .int .u64 p.r.p.b, .int .u64 p.r.c.a, .int .u64 p.r.c.b, .int .u64 p.r.n.a, .int .u64 p.r.n.b], .int .i64 2, .agg #[.int .i64 f.a, .int .i64 f.p, .int .i64 f.ta, .int .i64 f.tp], .int .i64 c] w fun e w' => e = .returned (.tuple #[.int .i64 ((readC 256 p.r 2 f c).getD 0), .bool (readC 256 p.r 2 f c).isSome]) ∧ Below w.heap.size w w' from read2 p.r f c hfI (by have := HPI.out.2.1; exact ⟨by omega, by omega⟩) w))
  obtain ⟨s, hs⟩ : ∃ x, x = wi d0 64 := ⟨_, rfl⟩
  have bs := wi_bd d0 64 (by omega)
  rw [← hs] at bs
  have Ws := hid (fun w => re_i64 (within_any d0 64 w (by omega) (by omega)) hs.symm)
  clear hs
  obtain ⟨bs1, bs2⟩ := bs
  obtain ⟨c, hc⟩ : ∃ c, c = cok 256 p.r.c 2 f s (p.r.e % 4) := ⟨_, rfl⟩
  have cp := cok_parts 256 p.r.c 2 f s (p.r.e % 4) (.inr rfl) ⟨bs1, bs2⟩ (by omega)
  rw [← hc] at cp
  obtain ⟨ca, cb, cd, c0, c1⟩ := cp
  clear ca cb cd
  have MK2 := hid (fun w => MKC.out w s ⟨bs1, bs2⟩)
  rw [← hc] at MK2
  have RT := hid (fun t ht => tag_one p.r f s t ⟨bs1, bs2⟩ ht c hc)
  have an := andNot64 c ⟨c0, by omega⟩
  have oj := hid (fun t ht => or_low c t ⟨c0, by omega⟩ ht)
  have am := mand255 c
  clear MKC hc hfI
  go_enter Tryz.func4, Tryz.ntmps4
  go_wp2_with fail
  refine (known_t _).mono ?_
  rintro e w1 ⟨rfl, hb⟩
  have S1 := hid (S0.out.below hb)
  clear hb
  go_simp
  go_wp2_with fail
  refine (MK.out _ S1.out.bl).mono ?_
  rintro e w2 ⟨rfl, hb⟩
  have S2 := hid (S1.out.below hb)
  clear hb S0 S1 MK
  go_simp
  go_upto_region 4 with (first | ((with_reducible refine wl_id ?_); refine wl_ow rfl (ow_alloc rfl (zpl2 _) (by omega) S2.out ?_); intro P w_ hZ _; have SA := hid hZ; clear hZ) | ((with_reducible refine wl_id ?_); refine wl_ow rfl (ow_store (A := []) 0 330 (pc p) (pc p) rfl rfl rfl SA.out (by omega) (fun j hj => patch_all _ _ _ j hj) info_pl2 (pc_one _) ?_); intro w_ hZ; have S3 := hid hZ; clear hZ))
  go_wp2_with fail
  refine (FLW.out _).mono ?_
  rintro e w4 ⟨rfl, hb⟩
  have S4 := hid (S3.out.below hb)
  clear hb S2 SA S3
  go_simp
  go_upto_region 5 with (first | ((with_reducible refine wl_id ?_); refine wl_ow rfl (ow_allocC rfl (zFl _) (by simp) S4.out ?_); intro F w_ hZ _; have SB := hid hZ; clear hZ) | ((with_reducible refine wl_id ?_); refine wl_ow rfl (ow_storeC (A := []) [.int .i64 f.a, .int .i64 f.p, .int .i64 f.ta, .int .i64 f.tp] rfl rfl (rfl) SB.out rfl iFl rfl ?_); intro w_ hZ; have S5 := hid hZ; clear hZ))
  go_wp2_with fail
  refine (Ws.out _).mono ?_
  rintro e w' ⟨rfl, rfl⟩
  go_upto_region 6 with (fail)
  obtain ⟨r0, r1, r2, r3, r4, r5, r6⟩ := (pool_fb (S5.out.fb 1 rfl)).r7
  obtain ⟨f0, f1, f2, f3⟩ := (S5.out.ce 0 rfl).c4
  go_wp2_with fail
  refine (MK2.out _).mono ?_
  rintro e w6 ⟨rfl, hb⟩
  have S6 := hid (S5.out.below hb)
  clear hb S4 SB S5 r0 r1 r2 r3 r4 r5 r6 f0 f1 f2 f3
  go_simp
  go_wp2_with fail
  go_loopg [13, 14] 256 (fun gh k i wx => ∃ (t : Nat) (kk : Int), gh = 256 - t ∧ t ≤ 256 ∧ i = .int .i64 (t : Int) ∧ k = .int .i64 kk ∧ kk = (if c % 256 < (t : Int) then 1 else 0) ∧ HS [] W wx [thC F [.int .i64 f.a, .int .i64 f.p, .int .i64 f.ta, .int .i64 f.tp], thB P 330 (pc p)])
  case atStart => exact ⟨0, 0, rfl, by omega, rfl, rfl, by rw [if_neg (by omega)], S6.out⟩
  case round =>
    clear S6
    obtain ⟨t, kk, hgh, ht, rfl, rfl, hkk, hS⟩ := hrel
    have S7 := hid hS
    clear hS
    by_cases hlt : (t : Int) < 256
    · have rt := RT.out t ⟨by omega, by omega⟩
      have oj := oj.out t ⟨by omega, by omega⟩
      have RD := hid (fun w => RDC.out w (c - c % 256 + t))
      rw [rt] at RD
      obtain ⟨r0, r1, r2, r3, r4, r5, r6⟩ := (pool_fb (S7.out.fb 1 rfl)).r7
      obtain ⟨f0, f1, f2, f3⟩ := (S7.out.ce 0 rfl).c4
      by_cases hte : (t : Int) = c % 256
      · rw [if_pos hte] at RD
        dsimp only [Option.getD, Option.isSome] at RD
        clear rt
        have k1 : ((t : Int) != c % 256) = false := by simp [hte]
        rw [if_neg (by omega)] at hkk
        subst hkk
        have HTE := hid hte
        clear hte
        go_wp2_with fail
        refine (RD.out _).mono ?_
        rintro e w8 ⟨rfl, hb⟩
        have S8 := hid (S7.out.below hb)
        clear hb S7 RD r0 r1 r2 r3 r4 r5 r6 f0 f1 f2 f3 oj
        go_simp
        go_wp2_with fail
        go_roundg (256 - (t + 1))
        case rel => exact ⟨t + 1, 1, by omega, by omega, by go_num, rfl, by have hte := HTE.out; rw [if_pos (by omega)], S8.out⟩
        case measure => omega
      · rw [if_neg hte] at RD
        dsimp only [Option.getD, Option.isSome] at RD
        clear rt
        have k1 : ((t : Int) != c % 256) = true := by simpa using hte
        have kb : 0 ≤ kk ∧ kk ≤ 1 := by rw [hkk]; split <;> omega
        have HKK := hid hkk
        clear hkk
        have HTE := hid hte
        clear hte
        go_wp2_with fail
        refine (RD.out _).mono ?_
        rintro e w8 ⟨rfl, hb⟩
        have S8 := hid (S7.out.below hb)
        clear hb S7 RD r0 r1 r2 r3 r4 r5 r6 f0 f1 f2 f3 oj
        go_simp
        go_wp2_with fail
        go_roundg (256 - (t + 1))
        case rel => exact ⟨t + 1, kk, by omega, by omega, by go_num, rfl, by have hte := HTE.out; rw [HKK.out]; split <;> split <;> omega, S8.out⟩
        case measure => omega
    · have e : t = 256 := by omega
      subst e
      rw [if_pos (by omega)] at hkk
      subst hkk
      go_wp2_with fail
      go_ret
      exact ⟨rfl, S7.out.bl⟩

set_option maxRecDepth 100000 in
theorem lifted (os : Os) (started : os.Started) (H : Type) (enc : TypeId × Value → H) :
    ReturnsInHanded {} Tryz.checked os 4 .any (Rows.topTagsSpec.pre6 enc Tryz.prog Tryz.f4 [] false) (Rows.topTagsSpec.post enc Tryz.prog Tryz.f4 false true false false) :=
  law_step (s := Rows.topTagsSpec) started (by kernel_rfl) Tryz.func4
    (ChangeSpec.witness6 (s := Rows.topTagsSpec) (enc := enc) (C := Tryz.checked) false ⟨#[], #[.slice none 0 0, .int .i64 0, .int .i64 0, .int .i64 0], []⟩ 8 (by kernel_rfl) (by kernel_rfl) (by kernel_rfl) (by kernel_rfl))
    rfl (by rw [Tryz.params4]; decide +kernel) rfl Tryz.underlying4
    (fun ds h => by
      rw [Tryz.params4] at h
      match ds, h with
      | [_, _, _, _], _ => rfl)
    (fun W base args ds ps hval hA hsz => by
      rw [Tryz.params4] at hA hval hsz
      obtain ⟨v0, vs0, d0, ds0, p0, q0, hargs, rfl, rfl, h0, r0⟩ := trodAll_cons hA
      obtain ⟨v1, vs1, d1, ds1, p1, q1, rfl, rfl, rfl, h1, r1⟩ := trodAll_cons r0
      obtain ⟨v2, vs2, d2, ds2, p2, q2, rfl, rfl, rfl, h2, r2⟩ := trodAll_cons r1
      obtain ⟨v3, vs3, d3, ds3, p3, q3, rfl, rfl, rfl, h3, r3⟩ := trodAll_cons r2
      obtain ⟨rfl, rfl, rfl⟩ := trodAll_nil r3
      obtain rfl : args = #[v0, v1, v2, v3] := by cases args; simp_all
      obtain ⟨A0, n0, c0, g0, rfl, hn0, hc0, hs0, hw0, hl0, hd0⟩ := open_row Tryz.underlying22 Tryz.underlying3 (by kernel_rfl) (hval 0 22 v0 rfl rfl) h0
      have re0 : c0 * 8 ≤ 140737488351232 := by
        rcases hd0 with ⟨_, h0⟩ | ⟨xs, ys, h1, h2⟩
        · omega
        · have := sized_slice hsz (j := 0) (t := 22) (e := 3) rfl (by rw [h1]; rfl) Tryz.underlying22
          rw [h2, show Tryz.prog.bytesOf 3 = 8 from by kernel_rfl] at this
          simpa [reachBytes] using this
      obtain ⟨a1, rfl, rfl, rfl, w1⟩ := open_int Tryz.underlying3 (hval 1 3 v1 rfl rfl) h1
      obtain ⟨a2, rfl, rfl, rfl, w2⟩ := open_int Tryz.underlying3 (hval 2 3 v2 rfl rfl) h2
      obtain ⟨a3, rfl, rfl, rfl, w3⟩ := open_int Tryz.underlying3 (hval 3 3 v3 rfl rfl) h3
      exact walk W A0 n0 c0 g0 hn0 hc0 hs0 (fun j => bounds_i64 (hw0 j)) hl0 re0 a1 (bounds_i64 w1) a2 (bounds_i64 w2) a3 (bounds_i64 w3))

theorem proved : Rows.TopTagsSaid :=
  OpenClaim.holds_of_wide 4 Tryz.f4 rfl rfl rfl rfl rfl rfl rfl ⟨rfl, rfl, rfl, rfl, rfl⟩ rfl rfl rfl rfl rfl (by kernel_rfl) Tryz.func4 (by kernel_rfl)
    (of_decide_eq_true (by kernel_rfl)) (by unfold Func.isWrapper; first | (rw [if_pos (by decide +kernel)]; kernel_rfl) | (rw [if_neg (by decide +kernel)]; exact ⟨rfl, rfl⟩))
    (fun os started H enc _ => lifted os started H enc)
end Go.Proofs.YthgffpfigmibhaaGreat.topTags
