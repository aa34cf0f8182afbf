/- roundhouselaw5.CookiePuts answers true for every two stamps and two numbers; no condition. -/
import Derived.Test.YtfokkmemjkfifaaCookLaw
import Derived.Test.YtfokkmemjkfifaaStamp2
namespace Go.Proofs.Ytfokkmemjkfifaa.cookiePuts
set_option linter.unusedVariables false
set_option linter.unusedSimpArgs false
open Go.RowKit Go.ChangeShapes Go.WideShapes Go.ChangeAt

theorem re_u32 {P : Program} {F : FuncId} {args : Array Value} {w : World} {R : World → Prop} {a b : Int} (h : Calls P F args w fun e w' => e = .returned (.int .u32 a) ∧ R w') (he : a = b) :
    Calls P F args w fun e w' => e = .returned (.int .u32 b) ∧ R w' := by subst he; exact h
theorem put_bd (v c : Int) (hv : U32 v) (hc : 0 ≤ c ∧ c < 1048576) : U32 (putV v c) ∧ putV v c / 1048576 = v / 256 % 4096 ∧ putV v c % 1048576 = c := by
  obtain ⟨h1, h2⟩ := hv
  unfold U32 putV
  omega
theorem back_put (v c k m : Int) (hv : U32 v) (hc : 0 ≤ c ∧ c < 1048576) (hk : 512 ≤ k ∧ k ≤ 1047552) (hm : U32 m) (h : (m - (v + k - 524032)) % 4294967296 = 0) : backV (putV v c) m = near8 v := by
  obtain ⟨_, h1, _⟩ := put_bd v c hv hc
  obtain ⟨hv1, hv2⟩ := hv
  obtain ⟨hm1, hm2⟩ := hm
  unfold backV backD
  rw [h1]
  unfold near8
  obtain ⟨q, hq⟩ : ∃ q, q = v / 256 := ⟨_, rfl⟩
  obtain ⟨u, hu⟩ : ∃ u, u = m / 256 := ⟨_, rfl⟩
  have e1 : v - v % 256 = q * 256 := by omega
  have e2 : m - m % 256 = u * 256 := by omega
  rw [e1, e2, ← hq]
  have e3 : (q % 4096 * 256 - u * 256) % 1048576 = (q - u) % 4096 * 256 := by omega
  rw [e3]
  have e4 : ∃ t : Int, q - u = t + 16777216 * ((q - u - t) / 16777216) ∧ -2048 < t ∧ t < 2048 ∧ (q - u - t) % 16777216 = 0 := by
    obtain ⟨z, hz⟩ : ∃ z, m - (v + k - 524032) = z * 4294967296 := ⟨(m - (v + k - 524032)) / 4294967296, by omega⟩
    refine ⟨q - u + 16777216 * z, ?_, ?_, ?_, ?_⟩ <;> omega
  obtain ⟨t, ht1, ht2, ht3, ht4⟩ := e4
  split <;> omega

set_option maxRecDepth 100000 in
set_option maxHeartbeats 8000000 in
theorem walk (W : World) (v : Int) (rv : 0 ≤ v ∧ v ≤ 4294967295) (c0 : Int) (rc0 : -9223372036854775808 ≤ c0 ∧ c0 ≤ 9223372036854775807)
    (n : Int) (rn : 0 ≤ n ∧ n ≤ 4294967295) (y0 : Int) (ry0 : -9223372036854775808 ≤ y0 ∧ y0 ≤ 9223372036854775807) :
    Calls Try.prog 8 #[.int .u32 v, .int .i64 c0, .int .u32 n, .int .i64 y0] W fun e w' => e = .returned (.bool true) ∧ Below W.heap.size W w' := by
  have hv : U32 v := ⟨by omega, by omega⟩
  have hn : U32 n := ⟨by omega, by omega⟩
  have wb := wi_bd c0 1048576 (by omega)
  obtain ⟨c, hc⟩ : ∃ c, c = wi c0 1048576 := ⟨_, rfl⟩
  rw [← hc] at wb
  have WS := fun w => re_i64 (within_any c0 1048576 w (by omega) (by omega)) hc.symm
  have wb2 := wi_bd y0 1048576 (by omega)
  obtain ⟨k, hk⟩ : ∃ k, k = wi y0 1048576 := ⟨_, rfl⟩
  rw [← hk] at wb2
  have WS2 := fun w => re_i64 (within_any y0 1048576 w (by omega) (by omega)) hk.symm
  obtain ⟨hpU, hp1, hp2⟩ := put_bd v c hv wb
  have hbp := fun m => back_put v c k m hv wb
  obtain ⟨p, hp⟩ : ∃ p, p = putV v c := ⟨_, rfl⟩
  have PT := fun w => put_any v c hv wb w
  have RP := fun w => rput_any v c hv wb w
  rw [← hp] at hpU hp1 hp2 hbp PT RP
  have GP := fun w => re_v (get_any p hpU w) (b := .tuple #[.int .i64 (v / 256 % 4096), .int .i64 c]) (by rw [hp1, hp2])
  have GV := fun w => get_any v hv w
  have RG := fun w => rget_any v hv w
  have BK := fun w => back_any v n hv hn w
  have RB := fun w => rback_any v n hv hn w
  have BP := fun m hm w => back_any p m hpU hm w
  have h1 := andNot255 v hv
  have h2 : bits .and .u32 (v / 256) 4095 = v / 256 % 4096 := uand32 (v / 256) 12 (by omega) ⟨by omega, by omega⟩
  have vb : IntKind.i64.wrap (v / 256 % 4096) = v / 256 % 4096 := IntWalk.i64_in _ (by omega)
  obtain ⟨k1, k2⟩ := wb2
  have NH := hid hn
  clear hp hp1 hp2 hc hk hn
  replace hbp := hid hbp
  replace WS := hid WS
  replace WS2 := hid WS2
  replace PT := hid PT
  replace RP := hid RP
  replace GP := hid GP
  replace GV := hid GV
  replace RG := hid RG
  replace BK := hid BK
  replace RB := hid RB
  replace BP := hid BP
  by_cases hk1 : k < 512
  · have d1 : decide (k < 512) = true := by simp; omega
    go_enter Try.func8, Try.ntmps8
    go_wp2_with fail
    refine (known_any _).mono ?_
    rintro e' w ⟨rfl, hb1⟩
    have B := hb1
    clear hb1
    go_wp2_with fail
    refine (WS.out _).mono ?_
    rintro e' w1 ⟨rfl, rfl⟩
    go_wp2_with fail
    refine (PT.out _).mono ?_
    rintro e' w2 ⟨rfl, hb⟩
    replace B := B.trans (hb.mono B.size)
    clear hb
    go_wp2_with fail
    refine (GP.out _).mono ?_
    rintro e' w3 ⟨rfl, hb⟩
    replace B := B.trans (hb.mono B.size)
    clear hb
    go_wp2_with fail
    refine (GV.out _).mono ?_
    rintro e' w4 ⟨rfl, hb⟩
    replace B := B.trans (hb.mono B.size)
    clear hb
    go_wp2_with fail
    refine (RG.out _).mono ?_
    rintro e' w5 ⟨rfl, rfl⟩
    go_wp2_with fail
    refine (WS2.out _).mono ?_
    rintro e' w5 ⟨rfl, rfl⟩
    go_wp2_with fail
    refine (RP.out _).mono ?_
    rintro e' w5 ⟨rfl, rfl⟩
    go_wp2_with fail
    refine (BK.out _).mono ?_
    rintro e' w6 ⟨rfl, hb⟩
    replace B := B.trans (hb.mono B.size)
    clear hb
    go_wp2_with fail
    refine (RB.out _).mono ?_
    rintro e' w7 ⟨rfl, rfl⟩
    go_wp2_with fail
    refine (WS2.out _).mono ?_
    rintro e' w7 ⟨rfl, rfl⟩
    go_wp2
    go_ret
    exact ⟨rfl, B⟩
  · have d1 : decide (k < 512) = false := by simp; omega
    by_cases hk2 : k > 1047552
    · have d2 : decide (k > 1047552) = true := by simp; omega
      go_enter Try.func8, Try.ntmps8
      go_wp2_with fail
      refine (known_any _).mono ?_
      rintro e' w ⟨rfl, hb1⟩
      have B := hb1
      clear hb1
      go_wp2_with fail
      refine (WS.out _).mono ?_
      rintro e' w1 ⟨rfl, rfl⟩
      go_wp2_with fail
      refine (PT.out _).mono ?_
      rintro e' w2 ⟨rfl, hb⟩
      replace B := B.trans (hb.mono B.size)
      clear hb
      go_wp2_with fail
      refine (GP.out _).mono ?_
      rintro e' w3 ⟨rfl, hb⟩
      replace B := B.trans (hb.mono B.size)
      clear hb
      go_wp2_with fail
      refine (GV.out _).mono ?_
      rintro e' w4 ⟨rfl, hb⟩
      replace B := B.trans (hb.mono B.size)
      clear hb
      go_wp2_with fail
      refine (RG.out _).mono ?_
      rintro e' w5 ⟨rfl, rfl⟩
      go_wp2_with fail
      refine (WS2.out _).mono ?_
      rintro e' w5 ⟨rfl, rfl⟩
      go_wp2_with fail
      refine (RP.out _).mono ?_
      rintro e' w5 ⟨rfl, rfl⟩
      go_wp2_with fail
      refine (BK.out _).mono ?_
      rintro e' w6 ⟨rfl, hb⟩
      replace B := B.trans (hb.mono B.size)
      clear hb
      go_wp2_with fail
      refine (RB.out _).mono ?_
      rintro e' w7 ⟨rfl, rfl⟩
      go_wp2_with fail
      refine (WS2.out _).mono ?_
      rintro e' w7 ⟨rfl, rfl⟩
      go_wp2_with fail
      refine (WS2.out _).mono ?_
      rintro e' w7 ⟨rfl, rfl⟩
      go_wp2
      go_ret
      exact ⟨rfl, B⟩
    · have d2 : decide (k > 1047552) = false := by simp; omega
      go_enter Try.func8, Try.ntmps8
      go_wp2_with fail
      refine (known_any _).mono ?_
      rintro e' w ⟨rfl, hb1⟩
      have B := hb1
      clear hb1
      go_wp2_with fail
      refine (WS.out _).mono ?_
      rintro e' w1 ⟨rfl, rfl⟩
      go_wp2_with fail
      refine (PT.out _).mono ?_
      rintro e' w2 ⟨rfl, hb⟩
      replace B := B.trans (hb.mono B.size)
      clear hb
      go_wp2_with fail
      refine (GP.out _).mono ?_
      rintro e' w3 ⟨rfl, hb⟩
      replace B := B.trans (hb.mono B.size)
      clear hb
      go_wp2_with fail
      refine (GV.out _).mono ?_
      rintro e' w4 ⟨rfl, hb⟩
      replace B := B.trans (hb.mono B.size)
      clear hb
      go_wp2_with fail
      refine (RG.out _).mono ?_
      rintro e' w5 ⟨rfl, rfl⟩
      go_wp2_with fail
      refine (WS2.out _).mono ?_
      rintro e' w5 ⟨rfl, rfl⟩
      go_wp2_with fail
      refine (RP.out _).mono ?_
      rintro e' w5 ⟨rfl, rfl⟩
      go_wp2_with fail
      refine (BK.out _).mono ?_
      rintro e' w6 ⟨rfl, hb⟩
      replace B := B.trans (hb.mono B.size)
      clear hb
      go_wp2_with fail
      refine (RB.out _).mono ?_
      rintro e' w7 ⟨rfl, rfl⟩
      go_wp2_with fail
      refine (WS2.out _).mono ?_
      rintro e' w7 ⟨rfl, rfl⟩
      go_wp2_with fail
      refine (WS2.out _).mono ?_
      rintro e' w7 ⟨rfl, rfl⟩
      go_wp2_with fail
      refine (re_u32 (BP.out _ ?_ _) (hbp.out _ ?_ ?_ ?_)).mono ?_
      · unfold U32
        first | omega | (simp only [IntKind.wrap_u32]; omega)
      · omega
      · unfold U32
        first | omega | (simp only [IntKind.wrap_u32]; omega)
      · first | omega | (simp only [IntKind.wrap_u32]; omega)
      rintro e' w8 ⟨rfl, hb⟩
      replace B := B.trans (hb.mono B.size)
      go_wp2
      go_ret
      exact ⟨rfl, B⟩

set_option maxRecDepth 100000 in
theorem lifted (os : Os) (started : os.Started) (H : Type) (enc : TypeId × Value → H) :
    ReturnsInHanded {} Try.checked os 8 .any (Rows.cookiePutsSpec.pre6 enc Try.prog Try.f8 [] false) (Rows.cookiePutsSpec.post enc Try.prog Try.f8 false true false false) :=
  law_step (s := Rows.cookiePutsSpec) started (by kernel_rfl) Try.func8
    (ChangeSpec.witness6 (s := Rows.cookiePutsSpec) (enc := enc) (C := Try.checked) false ⟨#[], #[.int .u32 0, .int .i64 0, .int .u32 0, .int .i64 0], []⟩ 8 (by kernel_rfl) (by kernel_rfl) (by kernel_rfl) (by kernel_rfl))
    rfl (by rw [Try.params8]; decide +kernel) rfl Try.underlying4
    (fun ds h => by
      rw [Try.params8] at h
      match ds, h with
      | [_, _, _, _], _ => rfl)
    (fun W base args ds ps hval hA hsz => by
      rw [Try.params8] at hA hval hsz
      obtain ⟨v0, vs0, d0, ds0, p0, q0, hargs, rfl, rfl, h0, r0⟩ := trodAll_cons hA
      obtain ⟨v1, vs1, d1, ds1, p1, q1, rfl, rfl, rfl, h1, r1⟩ := trodAll_cons r0
      obtain ⟨v2, vs2, d2, ds2, p2, q2, rfl, rfl, rfl, h2, r2⟩ := trodAll_cons r1
      obtain ⟨v3, vs3, d3, ds3, p3, q3, rfl, rfl, rfl, h3, r3⟩ := trodAll_cons r2
      obtain ⟨rfl, rfl, rfl⟩ := trodAll_nil r3
      obtain rfl : args = #[v0, v1, v2, v3] := by cases args; simp_all
      obtain ⟨a0, rfl, rfl, rfl, w0⟩ := open_int Try.underlying49 (hval 0 49 v0 rfl rfl) h0
      obtain ⟨a1, rfl, rfl, rfl, w1⟩ := open_int Try.underlying3 (hval 1 3 v1 rfl rfl) h1
      obtain ⟨a2, rfl, rfl, rfl, w2⟩ := open_int Try.underlying49 (hval 2 49 v2 rfl rfl) h2
      obtain ⟨a3, rfl, rfl, rfl, w3⟩ := open_int Try.underlying3 (hval 3 3 v3 rfl rfl) h3
      exact walk W a0 (bounds_u32 w0) a1 (bounds_i64 w1) a2 (bounds_u32 w2) a3 (bounds_i64 w3))

theorem proved : Rows.CookiePutsSaid :=
  OpenClaim.holds_of_wide 8 Try.f8 rfl rfl rfl rfl rfl rfl rfl ⟨rfl, rfl, rfl, rfl, rfl⟩ rfl rfl rfl rfl rfl (by kernel_rfl) Try.func8 (by kernel_rfl)
    (of_decide_eq_true (by kernel_rfl)) (by unfold Func.isWrapper; first | (rw [if_pos (by decide +kernel)]; kernel_rfl) | (rw [if_neg (by decide +kernel)]; exact ⟨rfl, rfl⟩))
    (fun os started H enc _ => lifted os started H enc)
end Go.Proofs.Ytfokkmemjkfifaa.cookiePuts
