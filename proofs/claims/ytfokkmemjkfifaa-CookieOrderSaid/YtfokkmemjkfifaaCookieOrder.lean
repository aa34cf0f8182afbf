/- roundhouselaw5.CookieOrder answers true for every stamp and three numbers; no condition. -/
import Derived.Test.YtfokkmemjkfifaaCookLaw
import Derived.Test.YtfokkmemjkfifaaStamp2
namespace Go.Proofs.Ytfokkmemjkfifaa.cookieOrder
set_option linter.unusedVariables false
set_option linter.unusedSimpArgs false
open Go.RowKit Go.ChangeShapes Go.WideShapes Go.ChangeAt

theorem re_u32 {P : Program} {F : FuncId} {args : Array Value} {w : World} {R : World → Prop} {a b : Int} (h : Calls P F args w fun e w' => e = .returned (.int .u32 a) ∧ R w') (he : a = b) :
    Calls P F args w fun e w' => e = .returned (.int .u32 b) ∧ R w' := by subst he; exact h
theorem put_bd (v c : Int) (hv : U32 v) (hc : 0 ≤ c ∧ c < 1048576) : U32 (putV v c) ∧ putV v c / 1048576 = v / 256 % 4096 ∧ putV v c % 1048576 = c := by
  obtain ⟨h1, h2⟩ := hv
  unfold U32 putV
  omega

set_option maxRecDepth 100000 in
set_option maxHeartbeats 8000000 in
theorem walk (W : World) (v : Int) (rv : 0 ≤ v ∧ v ≤ 4294967295) (y0 : Int) (ry0 : -9223372036854775808 ≤ y0 ∧ y0 ≤ 9223372036854775807)
    (c0 : Int) (rc0 : -9223372036854775808 ≤ c0 ∧ c0 ≤ 9223372036854775807) (d0 : Int) (rd0 : -9223372036854775808 ≤ d0 ∧ d0 ≤ 9223372036854775807) :
    Calls Try.prog 9 #[.int .u32 v, .int .i64 y0, .int .i64 c0, .int .i64 d0] W fun e w' => e = .returned (.bool true) ∧ Below W.heap.size W w' := by
  have hv : U32 v := ⟨by omega, by omega⟩
  have wb := wi_bd c0 1048576 (by omega)
  obtain ⟨x, hx⟩ : ∃ x, x = wi c0 1048576 := ⟨_, rfl⟩
  rw [← hx] at wb
  have WS := fun w => re_i64 (within_any c0 1048576 w (by omega) (by omega)) hx.symm
  have wb2 := wi_bd d0 1048576 (by omega)
  obtain ⟨y, hy⟩ : ∃ y, y = wi d0 1048576 := ⟨_, rfl⟩
  rw [← hy] at wb2
  have WS2 := fun w => re_i64 (within_any d0 1048576 w (by omega) (by omega)) hy.symm
  have wb3 := wi_bd y0 524032 (by omega)
  obtain ⟨k, hk⟩ : ∃ k, k = wi y0 524032 := ⟨_, rfl⟩
  rw [← hk] at wb3
  have WS3 := fun w => re_i64 (within_any y0 524032 w (by omega) (by omega)) hk.symm
  obtain ⟨m, hm⟩ : ∃ m, m = (v + k) % 4294967296 := ⟨_, rfl⟩
  have hmU : U32 m := by rw [hm]; unfold U32; omega
  obtain ⟨haU, ha1, ha2⟩ := put_bd v x hv wb
  obtain ⟨hbU, hb1, hb2⟩ := put_bd m y hmU wb2
  obtain ⟨p, hp⟩ : ∃ p, p = v / 256 % 4096 := ⟨_, rfl⟩
  obtain ⟨q, hq⟩ : ∃ q, q = m / 256 % 4096 := ⟨_, rfl⟩
  have hpq : (q - p) % 4096 < 2048 := by
    rw [hp, hq, hm]
    omega
  have hp4 : 0 ≤ p ∧ p < 4096 := by omega
  have hq4 : 0 ≤ q ∧ q < 4096 := by omega
  obtain ⟨a, ha⟩ : ∃ a, a = putV v x := ⟨_, rfl⟩
  obtain ⟨b, hb⟩ : ∃ b, b = putV m y := ⟨_, rfl⟩
  have hav : a = p * 1048576 + x := by rw [ha, hp]; rfl
  have hbv : b = q * 1048576 + y := by rw [hb, hq]; rfl
  rw [← ha] at haU ha1 ha2
  rw [← hb] at hbU hb1 hb2
  rw [← hp] at ha1
  rw [← hq] at hb1
  have PA := fun w => re_u32 (put_any v x hv wb w) ha.symm
  have PB := fun w => re_u32 (put_any m y hmU wb2 w) hb.symm
  have GA := fun w => re_v (get_any a haU w) (b := .tuple #[.int .i64 p, .int .i64 x]) (by rw [ha1, ha2])
  have GB := fun w => re_v (get_any b hbU w) (b := .tuple #[.int .i64 q, .int .i64 y]) (by rw [hb1, hb2])
  have L1 := fun w => rless_any a b haU hbU w
  have L2 := fun w => rless_any b a hbU haU w
  have hmm := hm.symm
  have wk : IntKind.u32.wrap k = k := by rw [IntKind.wrap_u32]; omega
  obtain ⟨y1, y2⟩ := wb2
  obtain ⟨x1, x2⟩ := wb
  obtain ⟨k1, k2⟩ := wb3
  by_cases e : p = q
  · have f1 : decide (farV a b > 0) = decide (x < y) := by
      have : farV a b = y - x := by rw [hav, hbv, e]; unfold farV; omega
      rw [this]
      simp only [decide_eq_decide]
      omega
    simp only [f1] at L1
    have e1 : (p == q) = true := by simp [e]
    have HE := hid e
    generalize hg : decide (x < y) = g at *
    clear e f1 hm ha hb hav hbv hpq hp hq ha1 ha2 hb1 hb2 L2 hx hy hk hmU hv
    replace WS := hid WS
    replace WS2 := hid WS2
    replace WS3 := hid WS3
    replace PA := hid PA
    replace PB := hid PB
    replace GA := hid GA
    replace GB := hid GB
    replace L1 := hid L1
    go_enter Try.func9, Try.ntmps9
    go_wp2_with fail
    refine (known_any _).mono ?_
    rintro e' w ⟨rfl, hb1⟩
    have B := hb1
    clear hb1
    go_wp2_with fail
    refine (WS.out _).mono ?_
    rintro e' w1 ⟨rfl, rfl⟩
    go_wp2_with fail
    refine (WS2.out _).mono ?_
    rintro e' w1 ⟨rfl, rfl⟩
    go_wp2_with fail
    refine (WS3.out _).mono ?_
    rintro e' w1 ⟨rfl, rfl⟩
    go_wp2_with fail
    refine (PA.out _).mono ?_
    rintro e' w2 ⟨rfl, hb⟩
    replace B := B.trans (hb.mono B.size)
    clear hb
    go_wp2_with fail
    refine (PB.out _).mono ?_
    rintro e' w3 ⟨rfl, hb⟩
    replace B := B.trans (hb.mono B.size)
    clear hb
    go_wp2_with fail
    refine (GA.out _).mono ?_
    rintro e' w4 ⟨rfl, hb⟩
    replace B := B.trans (hb.mono B.size)
    clear hb
    go_wp2_with fail
    refine (GB.out _).mono ?_
    rintro e' w5 ⟨rfl, hb⟩
    replace B := B.trans (hb.mono B.size)
    clear hb
    go_wp2_with fail
    refine (L1.out _).mono ?_
    rintro e' w6 ⟨rfl, rfl⟩
    cases g
    all_goals
      go_wp2
      go_ret
      exact ⟨rfl, B⟩
  · have f1 : decide (farV a b > 0) = true := by
      rw [hav, hbv]; unfold farV; simp only [decide_eq_true_eq]; omega
    have f2 : decide (farV b a > 0) = false := by
      rw [hav, hbv]; unfold farV; simp only [decide_eq_false_iff_not]; omega
    rw [f1] at L1
    rw [f2] at L2
    have e1 : (p == q) = false := by simp [e]
    have HE := hid e
    clear e f1 f2 hm ha hb hav hbv hpq hp hq ha1 ha2 hb1 hb2 hx hy hk hmU hv
    replace WS := hid WS
    replace WS2 := hid WS2
    replace WS3 := hid WS3
    replace PA := hid PA
    replace PB := hid PB
    replace GA := hid GA
    replace GB := hid GB
    replace L1 := hid L1
    replace L2 := hid L2
    go_enter Try.func9, Try.ntmps9
    go_wp2_with fail
    refine (known_any _).mono ?_
    rintro e' w ⟨rfl, hb1⟩
    have B := hb1
    clear hb1
    go_wp2_with fail
    refine (WS.out _).mono ?_
    rintro e' w1 ⟨rfl, rfl⟩
    go_wp2_with fail
    refine (WS2.out _).mono ?_
    rintro e' w1 ⟨rfl, rfl⟩
    go_wp2_with fail
    refine (WS3.out _).mono ?_
    rintro e' w1 ⟨rfl, rfl⟩
    go_wp2_with fail
    refine (PA.out _).mono ?_
    rintro e' w2 ⟨rfl, hb⟩
    replace B := B.trans (hb.mono B.size)
    clear hb
    go_wp2_with fail
    refine (PB.out _).mono ?_
    rintro e' w3 ⟨rfl, hb⟩
    replace B := B.trans (hb.mono B.size)
    clear hb
    go_wp2_with fail
    refine (GA.out _).mono ?_
    rintro e' w4 ⟨rfl, hb⟩
    replace B := B.trans (hb.mono B.size)
    clear hb
    go_wp2_with fail
    refine (GB.out _).mono ?_
    rintro e' w5 ⟨rfl, hb⟩
    replace B := B.trans (hb.mono B.size)
    clear hb
    go_wp2_with fail
    refine (L1.out _).mono ?_
    rintro e' w6 ⟨rfl, rfl⟩
    go_wp2_with fail
    refine (L2.out _).mono ?_
    rintro e' w6 ⟨rfl, rfl⟩
    go_wp2
    go_ret
    exact ⟨rfl, B⟩

set_option maxRecDepth 100000 in
theorem lifted (os : Os) (started : os.Started) (H : Type) (enc : TypeId × Value → H) :
    ReturnsInHanded {} Try.checked os 9 .any (Rows.cookieOrderSpec.pre6 enc Try.prog Try.f9 [] false) (Rows.cookieOrderSpec.post enc Try.prog Try.f9 false true false false) :=
  law_step (s := Rows.cookieOrderSpec) started (by kernel_rfl) Try.func9
    (ChangeSpec.witness6 (s := Rows.cookieOrderSpec) (enc := enc) (C := Try.checked) false ⟨#[], #[.int .u32 0, .int .i64 0, .int .i64 0, .int .i64 0], []⟩ 8 (by kernel_rfl) (by kernel_rfl) (by kernel_rfl) (by kernel_rfl))
    rfl (by rw [Try.params9]; decide +kernel) rfl Try.underlying4
    (fun ds h => by
      rw [Try.params9] at h
      match ds, h with
      | [_, _, _, _], _ => rfl)
    (fun W base args ds ps hval hA hsz => by
      rw [Try.params9] at hA hval hsz
      obtain ⟨v0, vs0, d0, ds0, p0, q0, hargs, rfl, rfl, h0, r0⟩ := trodAll_cons hA
      obtain ⟨v1, vs1, d1, ds1, p1, q1, rfl, rfl, rfl, h1, r1⟩ := trodAll_cons r0
      obtain ⟨v2, vs2, d2, ds2, p2, q2, rfl, rfl, rfl, h2, r2⟩ := trodAll_cons r1
      obtain ⟨v3, vs3, d3, ds3, p3, q3, rfl, rfl, rfl, h3, r3⟩ := trodAll_cons r2
      obtain ⟨rfl, rfl, rfl⟩ := trodAll_nil r3
      obtain rfl : args = #[v0, v1, v2, v3] := by cases args; simp_all
      obtain ⟨a0, rfl, rfl, rfl, w0⟩ := open_int Try.underlying49 (hval 0 49 v0 rfl rfl) h0
      obtain ⟨a1, rfl, rfl, rfl, w1⟩ := open_int Try.underlying3 (hval 1 3 v1 rfl rfl) h1
      obtain ⟨a2, rfl, rfl, rfl, w2⟩ := open_int Try.underlying3 (hval 2 3 v2 rfl rfl) h2
      obtain ⟨a3, rfl, rfl, rfl, w3⟩ := open_int Try.underlying3 (hval 3 3 v3 rfl rfl) h3
      exact walk W a0 (bounds_u32 w0) a1 (bounds_i64 w1) a2 (bounds_i64 w2) a3 (bounds_i64 w3))

theorem proved : Rows.CookieOrderSaid :=
  OpenClaim.holds_of_wide 9 Try.f9 rfl rfl rfl rfl rfl rfl rfl ⟨rfl, rfl, rfl, rfl, rfl⟩ rfl rfl rfl rfl rfl (by kernel_rfl) Try.func9 (by kernel_rfl)
    (of_decide_eq_true (by kernel_rfl)) (by unfold Func.isWrapper; first | (rw [if_pos (by decide +kernel)]; kernel_rfl) | (rw [if_neg (by decide +kernel)]; exact ⟨rfl, rfl⟩))
    (fun os started H enc _ => lifted os started H enc)
end Go.Proofs.Ytfokkmemjkfifaa.cookieOrder
