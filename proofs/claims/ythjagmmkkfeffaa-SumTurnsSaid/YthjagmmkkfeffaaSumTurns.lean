/- roundhouselaw1.SumTurns answers true for every three numbers; no condition. -/
import Derived.Test.YthjagmmkkfeffaaSumLaw
namespace Go.Proofs.Ythjagmmkkfeffaa.sumTurns
set_option linter.unusedVariables false
open Go.RowKit Go.ChangeShapes Go.WideShapes Go.ChangeAt

theorem back_ (x p q : Int) (hx : 0 ≤ x) (hx' : x < 65536) (hp : 0 ≤ p) (hp' : p < 65536) (hq : 0 ≤ q) (hq' : q < 65536) (h : turn (turn x p q) q p ≠ x) : x % 65535 = 0 ∧ turn (turn x p q) q p % 65535 = 0 := by
  revert h
  unfold turn plus
  split <;> split <;> split <;> split <;> omega

theorem walk (w : World) (a : Int) (ra : -9223372036854775808 ≤ a ∧ a ≤ 9223372036854775807) (b : Int) (rb : -9223372036854775808 ≤ b ∧ b ≤ 9223372036854775807) (c : Int) (rc : -9223372036854775808 ≤ c ∧ c ≤ 9223372036854775807) :
    Calls Try.prog 5 #[.int .i64 a, .int .i64 b, .int .i64 c] w fun e w' => e = .returned (.bool true) ∧ Below w.heap.size w w' := by
  have b1 := wi_bd a 65536 (by omega)
  have b2 := wi_bd b 65536 (by omega)
  have b3 := wi_bd c 65536 (by omega)
  go_enter Try.func5, Try.ntmps5
  go_wp2_with fail
  refine (known_any _).mono ?_
  rintro e w1 ⟨rfl, hb1⟩
  go_wp2_with fail
  refine (within_any a 65536 _ (by omega) (by omega)).mono ?_
  rintro e w2 ⟨rfl, rfl⟩
  go_wp2_with fail
  refine (within_any b 65536 _ (by omega) (by omega)).mono ?_
  rintro e w2 ⟨rfl, rfl⟩
  go_wp2_with fail
  refine (within_any c 65536 _ (by omega) (by omega)).mono ?_
  rintro e w2 ⟨rfl, rfl⟩
  generalize wi a 65536 = x at *
  generalize wi b 65536 = p at *
  generalize wi c 65536 = q at *
  obtain ⟨hx, hx'⟩ := b1
  obtain ⟨hp, hp'⟩ := b2
  obtain ⟨hq, hq'⟩ := b3
  have t1 := turn_bd x p q hx (by omega) hp (by omega) hq (by omega)
  have t2 := turn_bd (turn x p q) q p t1.1 t1.2 hq (by omega) hp (by omega)
  obtain ⟨t1, t1'⟩ := t1
  obtain ⟨t2, t2'⟩ := t2
  have H1 := hid (back_ x p q hx hx' hp hp' hq hq')
  go_wp2_with fail
  refine (turn_any x p q _ hx (by omega) hp (by omega) hq (by omega)).mono ?_
  rintro e w2 ⟨rfl, rfl⟩
  go_wp2_with fail
  refine (turn_any (turn x p q) q p _ t1 t1' hq (by omega) hp (by omega)).mono ?_
  rintro e w2 ⟨rfl, rfl⟩
  go_wp2_with fail
  refine (rturn_any x p q _ hx (by omega) hp (by omega) hq (by omega)).mono ?_
  rintro e w2 ⟨rfl, rfl⟩
  generalize turn (turn x p q) q p = z at *
  by_cases h0 : z = x
  · have h0' : (z == x) = true := by simp [h0]
    clear h0
    go_wp2
    go_ret
    exact ⟨rfl, hb1⟩
  · have h0' : (z == x) = false := by simpa using h0
    have h1 := H1.out h0
    have h2 : (x % 65535 == 0) = true := by simpa using h1.1
    have h3 : (z % 65535 == 0) = true := by simpa using h1.2
    clear h0 h1
    go_wp2
    go_ret
    exact ⟨rfl, hb1⟩

set_option maxRecDepth 100000 in
theorem lifted (os : Os) (started : os.Started) (H : Type) (enc : TypeId × Value → H) :
    ReturnsInHanded {} Try.checked os 5 .any (Rows.sumTurnsSpec.pre6 enc Try.prog Try.f5 [] false) (Rows.sumTurnsSpec.post enc Try.prog Try.f5 false true false false) :=
  law_step (s := Rows.sumTurnsSpec) started (by kernel_rfl) Try.func5
    (ChangeSpec.witness6 (s := Rows.sumTurnsSpec) (enc := enc) (C := Try.checked) false ⟨#[], #[.int .i64 0, .int .i64 0, .int .i64 0], []⟩ 8 (by kernel_rfl) (by kernel_rfl) (by kernel_rfl) (by kernel_rfl))
    rfl (by rw [Try.params5]; decide +kernel) rfl Try.underlying4
    (fun ds h => by
      rw [Try.params5] at h
      match ds, h with
      | [_, _, _], _ => rfl)
    (fun W base args ds ps hval hA hsz => by
      rw [Try.params5] at hA hval hsz
      obtain ⟨v0, vs0, d0, ds0, p0, q0, hargs, rfl, rfl, h0, r0⟩ := trodAll_cons hA
      obtain ⟨v1, vs1, d1, ds1, p1, q1, rfl, rfl, rfl, h1, r1⟩ := trodAll_cons r0
      obtain ⟨v2, vs2, d2, ds2, p2, q2, rfl, rfl, rfl, h2, r2⟩ := trodAll_cons r1
      obtain ⟨rfl, rfl, rfl⟩ := trodAll_nil r2
      obtain rfl : args = #[v0, v1, v2] := by cases args; simp_all
      obtain ⟨a0, rfl, rfl, rfl, w0⟩ := open_int Try.underlying3 (hval 0 3 v0 rfl rfl) h0
      obtain ⟨a1, rfl, rfl, rfl, w1⟩ := open_int Try.underlying3 (hval 1 3 v1 rfl rfl) h1
      obtain ⟨a2, rfl, rfl, rfl, w2⟩ := open_int Try.underlying3 (hval 2 3 v2 rfl rfl) h2
      exact walk W a0 (bounds_i64 w0) a1 (bounds_i64 w1) a2 (bounds_i64 w2))

theorem proved : Rows.SumTurnsSaid :=
  OpenClaim.holds_of_wide 5 Try.f5 rfl rfl rfl rfl rfl rfl rfl ⟨rfl, rfl, rfl, rfl, rfl⟩ rfl rfl rfl rfl rfl (by kernel_rfl) Try.func5 (by kernel_rfl)
    (of_decide_eq_true (by kernel_rfl)) (by unfold Func.isWrapper; first | (rw [if_pos (by decide +kernel)]; kernel_rfl) | (rw [if_neg (by decide +kernel)]; exact ⟨rfl, rfl⟩))
    (fun os started H enc _ => lifted os started H enc)
end Go.Proofs.Ythjagmmkkfeffaa.sumTurns
