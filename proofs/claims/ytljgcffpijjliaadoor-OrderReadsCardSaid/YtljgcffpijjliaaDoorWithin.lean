/- The laws' helper within; rows of numbers written out. -/
import Derived.Test.YtljgcffpijjliaaDoorBase
namespace Go.Proofs.YtljgcffpijjliaaDoor
set_option linter.unusedVariables false
open Go.RowKit Go.ChangeShapes Go.WideShapes Go.ChangeAt

/-- A number brought from 0 to n - 1. -/
def wi (a n : Int) : Int := a % n
theorem wi_bd (a n : Int) (h : 0 < n) : 0 ≤ wi a n ∧ wi a n < n := ⟨Int.emod_nonneg _ (by omega), Int.emod_lt_of_pos _ h⟩
theorem tmod_neg (a n : Int) (h : 0 < n) (ht : a.tmod n < 0) : a.tmod n + n = wi a n := by
  unfold wi
  rw [Int.tmod_eq_emod] at ht ⊢
  have h1 := Int.emod_nonneg a (show n ≠ 0 by omega)
  split at ht <;> rename_i hc
  · omega
  · rw [if_neg hc]; omega
theorem tmod_pos (a n : Int) (h : 0 < n) (ht : 0 ≤ a.tmod n) : a.tmod n = wi a n := by
  unfold wi
  rw [Int.tmod_eq_emod] at ht ⊢
  have h1 := Int.emod_lt_of_pos a h
  split at ht <;> rename_i hc
  · rw [if_pos hc]; omega
  · omega
theorem tmod_bd (a n : Int) (h : 0 < n) : -n < a.tmod n ∧ a.tmod n < n := by
  have h1 := Int.emod_lt_of_pos a h
  have h2 := Int.emod_nonneg a (show n ≠ 0 by omega)
  rw [Int.tmod_eq_emod]
  split
  · omega
  · rename_i hc
    have : ¬ n ∣ a := fun hd => hc (.inr hd)
    have h3 : a % n ≠ 0 := fun he => this (Int.dvd_of_emod_eq_zero he)
    omega

theorem within_any (a n : Int) (w : World) (hb : 0 < n) (hb' : n ≤ 4611686018427387904) :
    Calls Tryd.prog 16 #[.int .i64 a, .int .i64 n] w fun e w' => e = .returned (.int .i64 (wi a n)) ∧ w = w' := by
  have ht := tmod_bd a n hb
  have hn := hid (tmod_neg a n hb)
  have hp := hid (tmod_pos a n hb)
  obtain ⟨h1, h2⟩ := ht
  go_enter Tryd.func16, Tryd.ntmps16
  go_wp2
  · go_ret
    exact ⟨ret_i64 (hn.out (by assumption)), rfl⟩
  · go_ret
    exact ⟨ret_i64 (hp.out (by assumption)), rfl⟩
theorem within6_any (a n : Int) (w : World) (hb : 0 < n) (hb' : n ≤ 4611686018427387904) :
    Calls Tryd.prog 43 #[.int .i64 a, .int .i64 n] w fun e w' => e = .returned (.int .i64 (wi a n)) ∧ w = w' := by
  have ht := tmod_bd a n hb
  have hn := hid (tmod_neg a n hb)
  have hp := hid (tmod_pos a n hb)
  obtain ⟨h1, h2⟩ := ht
  go_enter Tryd.func43, Tryd.ntmps43
  go_wp2
  · go_ret
    exact ⟨ret_i64 (hn.out (by assumption)), rfl⟩
  · go_ret
    exact ⟨ret_i64 (hp.out (by assumption)), rfl⟩

theorem lit_b (l : List Int) (h : ∀ x ∈ l, 0 ≤ x ∧ x ≤ 255) : IsB (fun j => l.getD j 0) := by
  intro j
  rcases Nat.lt_or_ge j l.length with hj | hj
  · simp only [List.getD_eq_getElem?_getD, List.getElem?_eq_getElem hj, Option.getD_some]
    exact h _ (List.getElem_mem hj)
  · simp only [List.getD_eq_getElem?_getD, List.getElem?_eq_none hj, Option.getD_none]
    omega

end Go.Proofs.YtljgcffpijjliaaDoor
