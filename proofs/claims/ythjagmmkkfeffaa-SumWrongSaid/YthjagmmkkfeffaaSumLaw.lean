/- The laws' helpers: within, known. -/
import Derived.Test.YthjagmmkkfeffaaSumRef
namespace Go.Proofs.Ythjagmmkkfeffaa
set_option linter.unusedVariables false
open Go.RowKit

/-- A number brought from 0 to n - 1. -/
def wi (a n : Int) : Int := a % n
theorem wi_bd (a n : Int) (h : 0 < n) : 0 ≤ wi a n ∧ wi a n < n := ⟨Int.emod_nonneg _ (by omega), Int.emod_lt_of_pos _ h⟩
theorem tmod_neg (a n : Int) (h : 0 < n) (ht : a.tmod n < 0) : a.tmod n + n = wi a n := by
  unfold wi
  rw [Int.tmod_eq_emod] at ht ⊢
  have h1 := Int.emod_nonneg a (show n ≠ 0 by omega)
  split at ht <;> rename_i hc
  · omega
  · rw [if_neg hc]; omega
theorem tmod_pos (a n : Int) (h : 0 < n) (ht : 0 ≤ a.tmod n) : a.tmod n = wi a n := by
  unfold wi
  rw [Int.tmod_eq_emod] at ht ⊢
  have h1 := Int.emod_lt_of_pos a h
  split at ht <;> rename_i hc
  · rw [if_pos hc]; omega
  · omega
theorem tmod_bd (a n : Int) (h : 0 < n) : -n < a.tmod n ∧ a.tmod n < n := by
  have h1 := Int.emod_lt_of_pos a h
  have h2 := Int.emod_nonneg a (show n ≠ 0 by omega)
  rw [Int.tmod_eq_emod]
  split
  · omega
  · rename_i hc
    have : ¬ n ∣ a := fun hd => hc (.inr hd)
    have h3 : a % n ≠ 0 := fun he => this (Int.dvd_of_emod_eq_zero he)
    omega

theorem within_any (a n : Int) (w : World) (hb : 0 < n) (hb' : n ≤ 4611686018427387904) :
    Calls Try.prog 21 #[.int .i64 a, .int .i64 n] w fun e w' => e = .returned (.int .i64 (wi a n)) ∧ w = w' := by
  have ht := tmod_bd a n hb
  have hn := hid (tmod_neg a n hb)
  have hp := hid (tmod_pos a n hb)
  obtain ⟨h1, h2⟩ := ht
  go_enter Try.func21, Try.ntmps21
  go_wp2
  · go_ret
    exact ⟨ret_i64 (hn.out (by assumption)), rfl⟩
  · go_ret
    exact ⟨ret_i64 (hp.out (by assumption)), rfl⟩

theorem lit_b (l : List Int) (h : ∀ x ∈ l, 0 ≤ x ∧ x ≤ 255) : IsB (fun j => l.getD j 0) := by
  intro j
  rcases Nat.lt_or_ge j l.length with hj | hj
  · simp only [List.getD_eq_getElem?_getD, List.getElem?_eq_getElem hj, Option.getD_some]
    exact h _ (List.getElem_mem hj)
  · simp only [List.getD_eq_getElem?_getD, List.getElem?_eq_none hj, Option.getD_none]
    omega

theorem known_any (w : World) : Calls Try.prog 13 #[] w fun e w' => e = .returned (.bool true) ∧ Below w.heap.size w w' := by
  have k1 : ∀ w : World, Calls Try.prog 16 #[.slice none 0 0] w fun e w' => e = .returned (.int .i64 65535) ∧ ∃ k, w' = w.drewN k :=
    fun w => (of_any none 0 0 (fun _ => 0) w (Sl.nil _ _ _) (fun _ => ⟨Int.le_refl 0, by simp⟩) (by omega)).mono fun _ _ ⟨he, hw⟩ => ⟨he.trans (ret_i64 rfl), hw⟩
  have k2 : ∀ w : World, Calls Try.prog 20 #[.int .i64 65535, .int .i64 1] w fun e w' => e = .returned (.int .i64 1) ∧ w = w' :=
    fun w => (plus_any 65535 1 w (by omega) (by omega) (by omega) (by omega)).mono fun _ _ ⟨he, hw⟩ => ⟨he.trans (ret_i64 rfl), hw⟩
  have k5 : ∀ w : World, Calls Try.prog 23 #[.int .i64 10, .int .i64 5, .int .i64 5] w fun e w' => e = .returned (.int .i64 10) ∧ w = w' :=
    fun w => (turn_any 10 5 5 w (by omega) (by omega) (by omega) (by omega) (by omega) (by omega)).mono fun _ _ ⟨he, hw⟩ => ⟨he.trans (ret_i64 rfl), hw⟩
  have K1 := hid k1
  have K2 := hid k2
  have K5 := hid k5
  clear k1 k2 k5
  go_enter Try.func13, Try.ntmps13
  go_wp2_with fail
  refine (K1.out _).mono ?_
  rintro e w' ⟨rfl, k, rfl⟩
  go_wp2_with fail
  refine (K2.out _).mono ?_
  rintro e w' ⟨rfl, rfl⟩
  go_wp2_with fail
  refine (re_i64 (b := 1026) (add_any _ _ _ (fun j => [1, 2, 3].getD j 0) _ (by exact row_at .u8 [1, 2, 3] (by simp)) (lit_b _ (by decide)) (by omega)) rfl).mono ?_
  rintro e w' ⟨rfl, k2, rfl⟩
  go_wp2_with fail
  refine (re_bool (b := true) (right_any _ _ _ (fun j => [0, 1, 255, 254].getD j 0) _ (by exact row_at .u8 [0, 1, 255, 254] (by simp)) (lit_b _ (by decide)) (by omega)) rfl).mono ?_
  rintro e w' ⟨rfl, k3, rfl⟩
  go_wp2_with fail
  refine (K5.out _).mono ?_
  rintro e w' ⟨rfl, rfl⟩
  go_wp2
  go_ret
  refine ⟨rfl, ?_⟩
  exact below_drewN (((below_drewN ((below_drewN (Below.refl _ _) _).alloc (Nat.le_refl _) _) _).alloc (by simp) _)) _
end Go.Proofs.Ythjagmmkkfeffaa
