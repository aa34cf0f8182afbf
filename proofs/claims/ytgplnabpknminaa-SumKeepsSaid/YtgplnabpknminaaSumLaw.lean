/- The laws' helpers: within, known. -/
import Derived.Test.YtgplnabpknminaaSum
import Derived.Test.YtgplnabpknminaaWithin
namespace Go.Proofs.Ytgplnabpknminaa
set_option linter.unusedVariables false
open Go.RowKit

theorem known_any (w : World) : Calls Try.prog 4 #[] w fun e w' => e = .returned (.bool true) ∧ Below w.heap.size w w' := by
  have k1 : ∀ w : World, Calls Try.prog 5 #[.slice none 0 0] w fun e w' => e = .returned (.int .i64 65535) ∧ ∃ k, w' = w.drewN k :=
    fun w => (of_any none 0 0 (fun _ => 0) w (Sl.nil _ _ _) (fun _ => ⟨Int.le_refl 0, by simp⟩) (by omega)).mono fun _ _ ⟨he, hw⟩ => ⟨he.trans (ret_i64 rfl), hw⟩
  have k2 : ∀ w : World, Calls Try.prog 9 #[.int .i64 65535, .int .i64 1] w fun e w' => e = .returned (.int .i64 1) ∧ w = w' :=
    fun w => (plus_any 65535 1 w (by omega) (by omega) (by omega) (by omega)).mono fun _ _ ⟨he, hw⟩ => ⟨he.trans (ret_i64 rfl), hw⟩
  have k5 : ∀ w : World, Calls Try.prog 8 #[.int .i64 10, .int .i64 5, .int .i64 5] w fun e w' => e = .returned (.int .i64 10) ∧ w = w' :=
    fun w => (turn_any 10 5 5 w (by omega) (by omega) (by omega) (by omega) (by omega) (by omega)).mono fun _ _ ⟨he, hw⟩ => ⟨he.trans (ret_i64 rfl), hw⟩
  have K1 := hid k1
  have K2 := hid k2
  have K5 := hid k5
  clear k1 k2 k5
  go_enter Try.func4, Try.ntmps4
  go_wp2_with fail
  refine (K1.out _).mono ?_
  rintro e w' ⟨rfl, k, rfl⟩
  go_wp2_with fail
  refine (K2.out _).mono ?_
  rintro e w' ⟨rfl, rfl⟩
  go_wp2_with fail
  refine (re_i64 (b := 1026) (add_any _ _ _ (fun j => [1, 2, 3].getD j 0) _ (by exact row_at .u8 [1, 2, 3] (by simp)) (lit_b _ (by decide)) (by omega)) rfl).mono ?_
  rintro e w' ⟨rfl, k2, rfl⟩
  go_wp2_with fail
  refine (re_bool (b := true) (right_any _ _ _ (fun j => [0, 1, 255, 254].getD j 0) _ (by exact row_at .u8 [0, 1, 255, 254] (by simp)) (lit_b _ (by decide)) (by omega)) rfl).mono ?_
  rintro e w' ⟨rfl, k3, rfl⟩
  go_wp2_with fail
  refine (K5.out _).mono ?_
  rintro e w' ⟨rfl, rfl⟩
  go_wp2
  go_ret
  refine ⟨rfl, ?_⟩
  exact below_drewN (((below_drewN ((below_drewN (Below.refl _ _) _).alloc (Nat.le_refl _) _) _).alloc (by simp) _)) _
end Go.Proofs.Ytgplnabpknminaa
