/- roundhouselaw4.OptsFar answers true for all numbers; no condition. -/
import Derived.Test.YtdbfpoplhmonhaaOptKn
namespace Go.Proofs.Ytdbfpoplhmonhaa.optsFar
set_option linter.unusedVariables false
set_option linter.unusedSimpArgs false
open Go.RowKit Go.ChangeShapes Go.WideShapes Go.ChangeAt

theorem far_bd (a b : Int) : -2147483648 ≤ farV a b ∧ farV a b < 2147483648 := by unfold farV; omega
set_option maxRecDepth 100000 in
set_option maxHeartbeats 4000000 in
theorem walk (W : World) (a0 : Int) (r0 : 0 ≤ a0 ∧ a0 ≤ 4294967295) (a1 : Int) (r1 : 0 ≤ a1 ∧ a1 ≤ 4294967295) (a2 : Int) (r2 : -9223372036854775808 ≤ a2 ∧ a2 ≤ 9223372036854775807) :
    Calls Try.prog 6 #[.int .u32 a0, .int .u32 a1, .int .i64 a2] W fun e w' => e = .returned (.bool true) ∧ Below W.heap.size W w' := by
  have u0 : U32 a0 := by unfold U32; omega
  have u1 : U32 a1 := by unfold U32; omega
  obtain ⟨r0, r0'⟩ := r0
  obtain ⟨r1, r1'⟩ := r1
  have wb := wi_bd a2 4294967296 (by omega)
  obtain ⟨n, hn⟩ : ∃ n, n = wi a2 4294967296 := ⟨_, rfl⟩
  rw [← hn] at wb
  obtain ⟨wb1, wb2⟩ := wb
  have WS := hid (fun w => re_i64 (within_any a2 4294967296 w (by omega) (by omega)) hn.symm)
  obtain ⟨d, hd⟩ : ∃ d, d = n - 2147483648 := ⟨_, rfl⟩
  have hnd : n = d + 2147483648 := by omega
  subst hnd
  have hd1 : -2147483648 ≤ d := by omega
  have hd2 : d < 2147483648 := by omega
  obtain ⟨c, hc⟩ : ∃ c, c = (a0 + d) % 4294967296 := ⟨_, rfl⟩
  have hc1 : 0 ≤ c := by omega
  have hc2 : c ≤ 4294967295 := by omega
  have uc : U32 c := by unfold U32; omega
  obtain ⟨x, hx⟩ : ∃ x, x = farV a0 a1 := ⟨_, rfl⟩
  have bx := far_bd a0 a1
  rw [← hx] at bx
  obtain ⟨bx1, bx2⟩ := bx
  obtain ⟨l, hl⟩ : ∃ l, l = lessV a0 a1 := ⟨_, rfl⟩
  have F1 := hid (fun w => re_i64 (far_any a0 a1 u0 u1 w) hx.symm)
  have F2 := hid (fun w => re_i64 (rfar_any a0 a1 u0 u1 w) hx.symm)
  have F3 := hid (fun w => re_bool (less_any a0 a1 u0 u1 w) hl.symm)
  have F4 := hid (fun w => re_bool (rless_any a0 a1 u0 u1 w) hl.symm)
  have F5 := hid (fun w => re_i64 (b := d) (far_any a0 c u0 uc w) (by unfold farV; omega))
  have F6' := hid (fun w => re_bool (b := decide (0 < d)) (less_any a0 c u0 uc w) (by unfold lessV; rw [show farV a0 c = d from by unfold farV; omega]))
  have F7 := hid (fun (h : d ≠ -2147483648) w => re_i64 (b := 0 - d) (far_any c a0 uc u0 w) (by unfold farV; omega))
  have F8 := hid (fun (h : l = true) w => re_bool (b := false) (less_any a1 a0 u1 u0 w) (by
    have h2 : 0 < farV a0 a1 := by rw [h] at hl; simpa [lessV] using hl.symm
    unfold lessV
    have h3 : ¬ farV a1 a0 > 0 := by unfold farV at h2 ⊢; omega
    simpa using h3))
  have q1 : IntKind.u32.wrap d = d % 4294967296 := by rw [IntKind.wrap_u32]
  have q2 : (a0 + d % 4294967296) % 4294967296 = c := by omega
  have Q1 := hid q1
  have Q2 := hid q2
  clear hn hd hc hx hl u0 u1 uc q1 q2
  go_enter Try.func6, Try.ntmps6
  go_wp2_with fail
  refine (known_any _).mono ?_
  rintro e w ⟨rfl, hb1⟩
  have B := hid hb1
  clear hb1
  go_wp2_with fail
  refine (WS.out _).mono ?_
  rintro e w' ⟨rfl, rfl⟩
  have q1 := Q1.out
  go_wp2_with fail
  rw [Q2.out]
  clear q1
  refine (F1.out _).mono ?_
  rintro e w' ⟨rfl, rfl⟩
  go_wp2_with fail
  refine (F2.out _).mono ?_
  rintro e w' ⟨rfl, rfl⟩
  go_wp2_with fail
  refine (F3.out _).mono ?_
  rintro e w' ⟨rfl, rfl⟩
  go_wp2_with fail
  refine (F4.out _).mono ?_
  rintro e w' ⟨rfl, rfl⟩
  cases hl : l
  all_goals
    go_wp2_with fail
    refine (F5.out _).mono ?_
    rintro e w' ⟨rfl, rfl⟩
    cases hp : decide (0 < d)
    all_goals
      have F6 := F6'.out
      rw [hp] at F6
      replace F6 := hid F6
      go_wp2_with fail
      refine (F6.out _).mono ?_
      rintro e w' ⟨rfl, rfl⟩
      by_cases hm : d = -2147483648
      · have hm1 : (d == -2147483648) = true := by simpa using hm
        clear hm
        go_wp2_with fail
        first
          | (refine (F3.out _).mono ?_
             rintro e w' ⟨rfl, rfl⟩
             go_wp2_with fail
             refine (F8.out (by first | exact hl | rfl) _).mono ?_
             rintro e w' ⟨rfl, rfl⟩
             go_wp2
             go_ret
             exact ⟨rfl, B.out⟩)
          | (refine (F3.out _).mono ?_
             rintro e w' ⟨rfl, rfl⟩
             go_wp2
             go_ret
             exact ⟨rfl, B.out⟩)
      · have hm1 : (d == -2147483648) = false := by simpa using hm
        have G7 := hid (F7.out hm)
        clear hm
        go_wp2_with fail
        refine (G7.out _).mono ?_
        rintro e w' ⟨rfl, rfl⟩
        go_wp2_with fail
        first
          | (refine (F3.out _).mono ?_
             rintro e w' ⟨rfl, rfl⟩
             go_wp2_with fail
             refine (F8.out (by first | exact hl | rfl) _).mono ?_
             rintro e w' ⟨rfl, rfl⟩
             go_wp2
             go_ret
             exact ⟨rfl, B.out⟩)
          | (refine (F3.out _).mono ?_
             rintro e w' ⟨rfl, rfl⟩
             go_wp2
             go_ret
             exact ⟨rfl, B.out⟩)

set_option maxRecDepth 100000 in
theorem lifted (os : Os) (started : os.Started) (H : Type) (enc : TypeId × Value → H) :
    ReturnsInHanded {} Try.checked os 6 .any (Rows.optsFarSpec.pre6 enc Try.prog Try.f6 [] false) (Rows.optsFarSpec.post enc Try.prog Try.f6 false true false false) :=
  law_step (s := Rows.optsFarSpec) started (by kernel_rfl) Try.func6
    (ChangeSpec.witness6 (s := Rows.optsFarSpec) (enc := enc) (C := Try.checked) false ⟨#[], #[.int .u32 0, .int .u32 0, .int .i64 0], []⟩ 8 (by kernel_rfl) (by kernel_rfl) (by kernel_rfl) (by kernel_rfl))
    rfl (by rw [Try.params6]; decide +kernel) rfl Try.underlying4
    (fun ds h => by
      rw [Try.params6] at h
      match ds, h with
      | [_, _, _], _ => rfl)
    (fun W base args ds ps hval hA hsz => by
      rw [Try.params6] at hA hval hsz
      obtain ⟨v0, vs0, d0, ds0, p0, q0, hargs, rfl, rfl, h0, r0⟩ := trodAll_cons hA
      obtain ⟨v1, vs1, d1, ds1, p1, q1, rfl, rfl, rfl, h1, r1⟩ := trodAll_cons r0
      obtain ⟨v2, vs2, d2, ds2, p2, q2, rfl, rfl, rfl, h2, r2⟩ := trodAll_cons r1
      obtain ⟨rfl, rfl, rfl⟩ := trodAll_nil r2
      obtain rfl : args = #[v0, v1, v2] := by cases args; simp_all
      obtain ⟨a0, rfl, rfl, rfl, w0⟩ := open_int Try.underlying35 (hval 0 35 v0 rfl rfl) h0
      obtain ⟨a1, rfl, rfl, rfl, w1⟩ := open_int Try.underlying35 (hval 1 35 v1 rfl rfl) h1
      obtain ⟨a2, rfl, rfl, rfl, w2⟩ := open_int Try.underlying3 (hval 2 3 v2 rfl rfl) h2
      exact walk W a0 (bounds_u32 w0) a1 (bounds_u32 w1) a2 (bounds_i64 w2))

theorem proved : Rows.OptsFarSaid :=
  OpenClaim.holds_of_wide 6 Try.f6 rfl rfl rfl rfl rfl rfl rfl ⟨rfl, rfl, rfl, rfl, rfl⟩ rfl rfl rfl rfl rfl (by kernel_rfl) Try.func6 (by kernel_rfl)
    (of_decide_eq_true (by kernel_rfl)) (by unfold Func.isWrapper; first | (rw [if_pos (by decide +kernel)]; kernel_rfl) | (rw [if_neg (by decide +kernel)]; exact ⟨rfl, rfl⟩))
    (fun os started H enc _ => lifted os started H enc)
end Go.Proofs.Ytdbfpoplhmonhaa.optsFar
