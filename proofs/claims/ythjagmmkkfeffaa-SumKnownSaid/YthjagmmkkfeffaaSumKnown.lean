/- roundhouselaw1.SumKnown answers true for every number; no condition. -/
import Derived.Test.YthjagmmkkfeffaaSumLaw
namespace Go.Proofs.Ythjagmmkkfeffaa.sumKnown
set_option linter.unusedVariables false
open Go.RowKit Go.ChangeShapes Go.WideShapes Go.ChangeAt

theorem walk (w : World) (a : Int) (ra : -9223372036854775808 ≤ a ∧ a ≤ 9223372036854775807) :
    Calls Try.prog 10 #[.int .i64 a] w fun e w' => e = .returned (.bool true) ∧ Below w.heap.size w w' := by
  have b1 := wi_bd a 10 (by omega)
  obtain ⟨hk, hk'⟩ := b1
  go_enter Try.func10, Try.ntmps10
  go_wp2_with fail
  refine (known_any _).mono ?_
  rintro e w1 ⟨rfl, hb1⟩
  go_wp2_with fail
  refine (re_i64 (b := 65535) (plus_any 65535 65535 _ (by omega) (by omega) (by omega) (by omega)) rfl).mono ?_
  rintro e w2 ⟨rfl, rfl⟩
  go_wp2_with fail
  refine (re_i64 (b := 0) (plus_any 0 0 _ (by omega) (by omega) (by omega) (by omega)) rfl).mono ?_
  rintro e w2 ⟨rfl, rfl⟩
  go_wp2_with fail
  refine (re_i64 (b := 14465) (plus_any 40000 40000 _ (by omega) (by omega) (by omega) (by omega)) rfl).mono ?_
  rintro e w2 ⟨rfl, rfl⟩
  go_wp2_with fail
  refine (re_i64 (b := 0) (turn_any 0 0 0 _ (by omega) (by omega) (by omega) (by omega) (by omega) (by omega)) rfl).mono ?_
  rintro e w2 ⟨rfl, rfl⟩
  go_wp2_with fail
  refine (re_i64 (b := 65535) (turn_any 65535 65535 0 _ (by omega) (by omega) (by omega) (by omega) (by omega) (by omega)) rfl).mono ?_
  rintro e w2 ⟨rfl, rfl⟩
  go_wp2_with fail
  refine (re_i64 (b := 110) (turn_any 100 30 20 _ (by omega) (by omega) (by omega) (by omega) (by omega) (by omega)) rfl).mono ?_
  rintro e w2 ⟨rfl, rfl⟩
  go_wp2_with fail
  refine (re_i64 (b := 65530) (turn_any 5 0 10 _ (by omega) (by omega) (by omega) (by omega) (by omega) (by omega)) rfl).mono ?_
  rintro e w2 ⟨rfl, rfl⟩
  go_wp2_with fail
  refine (re_i64 (b := 1) (add_any _ _ _ (fun j => [255, 255, 0, 1].getD j 0) _ (by exact row_at .u8 [255, 255, 0, 1] (by simp)) (lit_b _ (by decide)) (by omega)) rfl).mono ?_
  rintro e w2 ⟨rfl, k2, rfl⟩
  go_wp2_with fail
  refine (re_i64 (b := 1792) (add_any _ _ _ (fun j => [7].getD j 0) _ (by exact row_at .u8 [7] (by simp)) (lit_b _ (by decide)) (by omega)) rfl).mono ?_
  rintro e w2 ⟨rfl, k3, rfl⟩
  go_wp2_with fail
  refine (re_i64 (b := 0) (of_any _ _ _ (fun j => [255, 255].getD j 0) _ (by exact row_at .u8 [255, 255] (by simp)) (lit_b _ (by decide)) (by omega)) rfl).mono ?_
  rintro e w2 ⟨rfl, k4, rfl⟩
  go_wp2_with fail
  refine (within_any a 10 _ (by omega) (by omega)).mono ?_
  rintro e w2 ⟨rfl, rfl⟩
  generalize wi a 10 = k at *
  have hz := hb1.size
  rcases (by omega : k = 0 ∨ k = 1 ∨ k = 2 ∨ k = 3 ∨ k = 4 ∨ k = 5 ∨ k = 6 ∨ k = 7 ∨ k = 8 ∨ k = 9) with rfl | rfl | rfl | rfl | rfl | rfl | rfl | rfl | rfl | rfl
  all_goals
    go_wp2
    go_quiet (fail)
    go_wp2
    go_ret
    refine ⟨rfl, ?_⟩
    repeat' (first | with_reducible assumption | with_reducible refine below_drewN ?_ _ | with_reducible refine Below.alloc ?_ ?_ _ | (simp; omega))

set_option maxRecDepth 100000 in
theorem lifted (os : Os) (started : os.Started) (H : Type) (enc : TypeId × Value → H) :
    ReturnsInHanded {} Try.checked os 10 .any (Rows.sumKnownSpec.pre6 enc Try.prog Try.f10 [] false) (Rows.sumKnownSpec.post enc Try.prog Try.f10 false true false false) :=
  law_step (s := Rows.sumKnownSpec) started (by kernel_rfl) Try.func10
    (ChangeSpec.witness6 (s := Rows.sumKnownSpec) (enc := enc) (C := Try.checked) false ⟨#[], #[.int .i64 0], []⟩ 8 (by kernel_rfl) (by kernel_rfl) (by kernel_rfl) (by kernel_rfl))
    rfl (by rw [Try.params10]; decide +kernel) rfl Try.underlying4
    (fun ds h => by
      rw [Try.params10] at h
      match ds, h with
      | [_], _ => rfl)
    (fun W base args ds ps hval hA hsz => by
      rw [Try.params10] at hA hval hsz
      obtain ⟨v0, vs0, d0, ds0, p0, q0, hargs, rfl, rfl, h0, r0⟩ := trodAll_cons hA
      obtain ⟨rfl, rfl, rfl⟩ := trodAll_nil r0
      obtain rfl : args = #[v0] := by cases args; simp_all
      obtain ⟨a0, rfl, rfl, rfl, w0⟩ := open_int Try.underlying3 (hval 0 3 v0 rfl rfl) h0
      exact walk W a0 (bounds_i64 w0))

theorem proved : Rows.SumKnownSaid :=
  OpenClaim.holds_of_wide 10 Try.f10 rfl rfl rfl rfl rfl rfl rfl ⟨rfl, rfl, rfl, rfl, rfl⟩ rfl rfl rfl rfl rfl (by kernel_rfl) Try.func10 (by kernel_rfl)
    (of_decide_eq_true (by kernel_rfl)) (by unfold Func.isWrapper; first | (rw [if_pos (by decide +kernel)]; kernel_rfl) | (rw [if_neg (by decide +kernel)]; exact ⟨rfl, rfl⟩))
    (fun os started H enc _ => lifted os started H enc)
end Go.Proofs.Ythjagmmkkfeffaa.sumKnown
