/- roundhouselaw1.SumPluses answers true for every three numbers; no condition. -/
import Derived.Test.YthjagmmkkfeffaaSumLaw
namespace Go.Proofs.Ythjagmmkkfeffaa.sumPluses
set_option linter.unusedVariables false
open Go.RowKit Go.ChangeShapes Go.WideShapes Go.ChangeAt

theorem comm_ (x y : Int) : plus x y = plus y x := by unfold plus; rw [Int.add_comm]
theorem assoc_ (x y z : Int) (hx : 0 ≤ x) (hx' : x < 65536) (hy : 0 ≤ y) (hy' : y < 65536) (hz : 0 ≤ z) (hz' : z < 65536) : plus (plus x y) z = plus x (plus y z) := by
  unfold plus
  split <;> split <;> split <;> (try split) <;> omega
theorem full_ (x : Int) (hx : 0 < x) (hx' : x < 65536) : plus x 65535 = x := by unfold plus; split <;> omega
theorem none_ (x : Int) (hx : 0 ≤ x) (hx' : x < 65536) : plus x 0 = x := by unfold plus; split <;> omega

theorem walk (w : World) (a : Int) (ra : -9223372036854775808 ≤ a ∧ a ≤ 9223372036854775807) (b : Int) (rb : -9223372036854775808 ≤ b ∧ b ≤ 9223372036854775807) (c : Int) (rc : -9223372036854775808 ≤ c ∧ c ≤ 9223372036854775807) : Calls Try.prog 4 #[.int .i64 a, .int .i64 b, .int .i64 c] w fun e w' => e = .returned (.bool true) ∧ Below w.heap.size w w' := by
  have b1 := wi_bd a 65536 (by omega)
  have b2 := wi_bd b 65536 (by omega)
  have b3 := wi_bd c 65536 (by omega)
  go_enter Try.func4, Try.ntmps4
  go_wp2_with fail
  refine (known_any _).mono ?_
  rintro e w1 ⟨rfl, hb1⟩
  go_wp2_with fail
  refine (within_any a 65536 _ (by omega) (by omega)).mono ?_
  rintro e w2 ⟨rfl, rfl⟩
  go_wp2_with fail
  refine (within_any b 65536 _ (by omega) (by omega)).mono ?_
  rintro e w2 ⟨rfl, rfl⟩
  go_wp2_with fail
  refine (within_any c 65536 _ (by omega) (by omega)).mono ?_
  rintro e w2 ⟨rfl, rfl⟩
  generalize wi a 65536 = x at *
  generalize wi b 65536 = y at *
  generalize wi c 65536 = z at *
  obtain ⟨hx, hx'⟩ := b1
  obtain ⟨hy, hy'⟩ := b2
  obtain ⟨hz, hz'⟩ := b3
  have p1 := plus_bd x y hx (by omega) hy (by omega)
  have p2 := plus_bd y z hy (by omega) hz (by omega)
  obtain ⟨p1, p1'⟩ := p1
  obtain ⟨p2, p2'⟩ := p2
  have H1 := hid (comm_ y x)
  have H2 := hid (assoc_ x y z hx hx' hy hy' hz hz')
  go_wp2_with fail
  refine (plus_any x y _ hx (by omega) hy (by omega)).mono ?_
  rintro e w2 ⟨rfl, rfl⟩
  go_wp2_with fail
  refine (rplus_any x y _ hx (by omega) hy (by omega)).mono ?_
  rintro e w2 ⟨rfl, rfl⟩
  go_wp2_with fail
  refine (plus_any x y _ hx (by omega) hy (by omega)).mono ?_
  rintro e w2 ⟨rfl, rfl⟩
  go_wp2_with fail
  refine (re_i64 (plus_any y x _ hy (by omega) hx (by omega)) H1.out).mono ?_
  rintro e w2 ⟨rfl, rfl⟩
  go_wp2_with fail
  refine (plus_any x y _ hx (by omega) hy (by omega)).mono ?_
  rintro e w2 ⟨rfl, rfl⟩
  go_wp2_with fail
  refine (re_i64 (plus_any (plus x y) z _ p1 p1' hz (by omega)) H2.out).mono ?_
  rintro e w2 ⟨rfl, rfl⟩
  go_wp2_with fail
  refine (plus_any y z _ hy (by omega) hz (by omega)).mono ?_
  rintro e w2 ⟨rfl, rfl⟩
  go_wp2_with fail
  refine (plus_any x (plus y z) _ hx (by omega) p2 p2').mono ?_
  rintro e w2 ⟨rfl, rfl⟩
  by_cases h0 : x = 0
  · have h0' : (x == 0) = true := by simp [h0]
    clear h0
    go_wp2_with fail
    refine (re_i64 (plus_any x 0 _ hx (by omega) (by omega) (by omega)) (none_ x hx hx')).mono ?_
    rintro e w2 ⟨rfl, rfl⟩
    go_wp2
    go_ret
    exact ⟨rfl, hb1⟩
  · have h0' : (x == 0) = false := by simpa using h0
    have hpos : 0 < x := by omega
    clear h0
    go_wp2_with fail
    refine (re_i64 (plus_any x 65535 _ hx (by omega) (by omega) (by omega)) (full_ x hpos hx')).mono ?_
    rintro e w2 ⟨rfl, rfl⟩
    go_wp2_with fail
    refine (re_i64 (plus_any x 0 _ hx (by omega) (by omega) (by omega)) (none_ x hx hx')).mono ?_
    rintro e w2 ⟨rfl, rfl⟩
    go_wp2
    go_ret
    exact ⟨rfl, hb1⟩

set_option maxRecDepth 100000 in
theorem lifted (os : Os) (started : os.Started) (H : Type) (enc : TypeId × Value → H) :
    ReturnsInHanded {} Try.checked os 4 .any (Rows.sumPlusesSpec.pre6 enc Try.prog Try.f4 [] false) (Rows.sumPlusesSpec.post enc Try.prog Try.f4 false true false false) :=
  law_step (s := Rows.sumPlusesSpec) started (by kernel_rfl) Try.func4
    (ChangeSpec.witness6 (s := Rows.sumPlusesSpec) (enc := enc) (C := Try.checked) false ⟨#[], #[.int .i64 0, .int .i64 0, .int .i64 0], []⟩ 8 (by kernel_rfl) (by kernel_rfl) (by kernel_rfl) (by kernel_rfl))
    rfl (by rw [Try.params4]; decide +kernel) rfl Try.underlying4
    (fun ds h => by
      rw [Try.params4] at h
      match ds, h with
      | [_, _, _], _ => rfl)
    (fun W base args ds ps hval hA hsz => by
      rw [Try.params4] at hA hval hsz
      obtain ⟨v0, vs0, d0, ds0, p0, q0, hargs, rfl, rfl, h0, r0⟩ := trodAll_cons hA
      obtain ⟨v1, vs1, d1, ds1, p1, q1, rfl, rfl, rfl, h1, r1⟩ := trodAll_cons r0
      obtain ⟨v2, vs2, d2, ds2, p2, q2, rfl, rfl, rfl, h2, r2⟩ := trodAll_cons r1
      obtain ⟨rfl, rfl, rfl⟩ := trodAll_nil r2
      obtain rfl : args = #[v0, v1, v2] := by cases args; simp_all
      obtain ⟨a0, rfl, rfl, rfl, w0⟩ := open_int Try.underlying3 (hval 0 3 v0 rfl rfl) h0
      obtain ⟨a1, rfl, rfl, rfl, w1⟩ := open_int Try.underlying3 (hval 1 3 v1 rfl rfl) h1
      obtain ⟨a2, rfl, rfl, rfl, w2⟩ := open_int Try.underlying3 (hval 2 3 v2 rfl rfl) h2
      exact walk W a0 (bounds_i64 w0) a1 (bounds_i64 w1) a2 (bounds_i64 w2))

theorem proved : Rows.SumPlusesSaid :=
  OpenClaim.holds_of_wide 4 Try.f4 rfl rfl rfl rfl rfl rfl rfl ⟨rfl, rfl, rfl, rfl, rfl⟩ rfl rfl rfl rfl rfl (by kernel_rfl) Try.func4 (by kernel_rfl)
    (of_decide_eq_true (by kernel_rfl)) (by unfold Func.isWrapper; first | (rw [if_pos (by decide +kernel)]; kernel_rfl) | (rw [if_neg (by decide +kernel)]; exact ⟨rfl, rfl⟩))
    (fun os started H enc _ => lifted os started H enc)
end Go.Proofs.Ythjagmmkkfeffaa.sumPluses
