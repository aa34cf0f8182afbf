/- Keys by epochs; cookies made, of both packages. -/
import Derived.Test.YtfokkmemjkfifabCook4
namespace Go.Proofs.Ytfokkmemjkfifab
set_option linter.unusedVariables false
set_option linter.unusedSimpArgs false
open Go.RowKit Go.ChangeShapes Go.WideShapes Go.ChangeAt

def kyO (o : Option Ky) : Value := .tuple #[kyV (o.getD ⟨0, 0⟩), .bool o.isSome]
/-- An epoch that is not at the edge. -/
def Ep (e : Int) : Prop := -4611686018427387904 ≤ e ∧ e ≤ 4611686018427387904
theorem key_any (r : Rg) (e : Int) (hr : Ep r.e) (w : World) :
    Calls Try.prog 24 #[rgV r, .int .i64 e] w fun e' w' => e' = .returned (kyO (keyOf r e)) ∧ Below w.heap.size w w' := by
  obtain ⟨hr1, hr2⟩ := hr
  have q1 : IntKind.i64.wrap (r.e - 1) = r.e - 1 := IntWalk.i64_in _ (by omega)
  have q2 : IntKind.i64.wrap (r.e + 1) = r.e + 1 := IntWalk.i64_in _ (by omega)
  have HK := hid (show keyOf r e = _ from rfl)
  obtain ⟨o, ho⟩ : ∃ o, o = keyOf r e := ⟨_, rfl⟩
  rw [← ho]
  unfold keyOf at ho
  by_cases h0 : e % 4 = (r.e - 1) % 4
  · rw [if_pos h0] at ho
    subst ho
    have b0 : (e % 4 == (r.e - 1) % 4) = true := by simp [h0]
    clear h0
    unfold kyO kyV rgV
    go_enter Try.func24, Try.ntmps24
    go_wp2_with fail
    refine (short_any _ _).mono ?_
    rintro e' w2 ⟨rfl, rfl⟩
    go_wp2_with fail
    refine (short_any _ _).mono ?_
    rintro e' w2 ⟨rfl, rfl⟩
    go_wp2_with fail
    refine bodyPost_ret (by simp [results, Try.results24, go_sem]) rfl ⟨rfl, ?_⟩
    repeat' (first | with_reducible exact Below.refl _ _ | with_reducible refine Below.drew ?_ | with_reducible refine Below.alloc ?_ ?_ _ | with_reducible refine Below.setCell ?_ ?_ _ | (simp; done) | (simp; omega))
  by_cases h1 : e % 4 = r.e % 4
  · rw [if_neg h0] at ho; rw [if_pos h1] at ho
    subst ho
    have b0 : (e % 4 == (r.e - 1) % 4) = false := by simp [h0]
    have b1 : (e % 4 == r.e % 4) = true := by simp [h1]
    clear h0 h1
    unfold kyO kyV rgV
    go_enter Try.func24, Try.ntmps24
    go_wp2_with fail
    refine (short_any _ _).mono ?_
    rintro e' w2 ⟨rfl, rfl⟩
    go_wp2_with fail
    refine (short_any _ _).mono ?_
    rintro e' w2 ⟨rfl, rfl⟩
    go_wp2_with fail
    refine (short_any _ _).mono ?_
    rintro e' w2 ⟨rfl, rfl⟩
    go_wp2_with fail
    refine bodyPost_ret (by simp [results, Try.results24, go_sem]) rfl ⟨rfl, ?_⟩
    repeat' (first | with_reducible exact Below.refl _ _ | with_reducible refine Below.drew ?_ | with_reducible refine Below.alloc ?_ ?_ _ | with_reducible refine Below.setCell ?_ ?_ _ | (simp; done) | (simp; omega))
  by_cases h2 : e % 4 = (r.e + 1) % 4
  · rw [if_neg h0] at ho; rw [if_neg h1] at ho; rw [if_pos h2] at ho
    subst ho
    have b0 : (e % 4 == (r.e - 1) % 4) = false := by simp [h0]
    have b1 : (e % 4 == r.e % 4) = false := by simp [h1]
    have b2 : (e % 4 == (r.e + 1) % 4) = true := by simp [h2]
    clear h0 h1 h2
    unfold kyO kyV rgV
    go_enter Try.func24, Try.ntmps24
    go_wp2_with fail
    refine (short_any _ _).mono ?_
    rintro e' w2 ⟨rfl, rfl⟩
    go_wp2_with fail
    refine (short_any _ _).mono ?_
    rintro e' w2 ⟨rfl, rfl⟩
    go_wp2_with fail
    refine (short_any _ _).mono ?_
    rintro e' w2 ⟨rfl, rfl⟩
    go_wp2_with fail
    refine (short_any _ _).mono ?_
    rintro e' w2 ⟨rfl, rfl⟩
    go_wp2_with fail
    refine bodyPost_ret (by simp [results, Try.results24, go_sem]) rfl ⟨rfl, ?_⟩
    repeat' (first | with_reducible exact Below.refl _ _ | with_reducible refine Below.drew ?_ | with_reducible refine Below.alloc ?_ ?_ _ | with_reducible refine Below.setCell ?_ ?_ _ | (simp; done) | (simp; omega))
  · rw [if_neg h0, if_neg h1, if_neg h2] at ho
    subst ho
    have b0 : (e % 4 == (r.e - 1) % 4) = false := by simp [h0]
    have b1 : (e % 4 == r.e % 4) = false := by simp [h1]
    have b2 : (e % 4 == (r.e + 1) % 4) = false := by simp [h2]
    clear h0 h1 h2
    unfold kyO kyV rgV
    go_enter Try.func24, Try.ntmps24
    go_wp2_with fail
    refine (short_any _ _).mono ?_
    rintro e' w2 ⟨rfl, rfl⟩
    go_wp2_with fail
    refine (short_any _ _).mono ?_
    rintro e' w2 ⟨rfl, rfl⟩
    go_wp2_with fail
    refine (short_any _ _).mono ?_
    rintro e' w2 ⟨rfl, rfl⟩
    go_wp2_with fail
    refine (short_any _ _).mono ?_
    rintro e' w2 ⟨rfl, rfl⟩
    go_wp2_with fail
    refine bodyPost_ret (by simp [results, Try.results24, go_sem]) rfl ⟨rfl, ?_⟩
    repeat' (first | with_reducible exact Below.refl _ _ | with_reducible refine Below.drew ?_ | with_reducible refine Below.alloc ?_ ?_ _ | with_reducible refine Below.setCell ?_ ?_ _ | (simp; done) | (simp; omega))
theorem rkey_any (r : Rg) (e : Int) (hr : Ep r.e) (w : World) :
    Calls Try.prog 28 #[rgV r, .int .i64 e] w fun e' w' => e' = .returned (kyO (keyOf r e)) ∧ Below w.heap.size w w' := by
  obtain ⟨hr1, hr2⟩ := hr
  have q1 : IntKind.i64.wrap (r.e - 1) = r.e - 1 := IntWalk.i64_in _ (by omega)
  have q2 : IntKind.i64.wrap (r.e + 1) = r.e + 1 := IntWalk.i64_in _ (by omega)
  have HK := hid (show keyOf r e = _ from rfl)
  obtain ⟨o, ho⟩ : ∃ o, o = keyOf r e := ⟨_, rfl⟩
  rw [← ho]
  unfold keyOf at ho
  by_cases h0 : e % 4 = (r.e - 1) % 4
  · rw [if_pos h0] at ho
    subst ho
    have b0 : (e % 4 == (r.e - 1) % 4) = true := by simp [h0]
    clear h0
    unfold kyO kyV rgV
    go_enter Try.func28, Try.ntmps28
    go_wp2_with fail
    refine (four_any _ _).mono ?_
    rintro e' w2 ⟨rfl, rfl⟩
    go_wp2_with fail
    refine (four_any _ _).mono ?_
    rintro e' w2 ⟨rfl, rfl⟩
    go_wp2_with fail
    refine bodyPost_ret (by simp [results, Try.results28, go_sem]) rfl ⟨rfl, ?_⟩
    repeat' (first | with_reducible exact Below.refl _ _ | with_reducible refine Below.drew ?_ | with_reducible refine Below.alloc ?_ ?_ _ | with_reducible refine Below.setCell ?_ ?_ _ | (simp; done) | (simp; omega))
  by_cases h1 : e % 4 = r.e % 4
  · rw [if_neg h0] at ho; rw [if_pos h1] at ho
    subst ho
    have b0 : (e % 4 == (r.e - 1) % 4) = false := by simp [h0]
    have b1 : (e % 4 == r.e % 4) = true := by simp [h1]
    clear h0 h1
    unfold kyO kyV rgV
    go_enter Try.func28, Try.ntmps28
    go_wp2_with fail
    refine (four_any _ _).mono ?_
    rintro e' w2 ⟨rfl, rfl⟩
    go_wp2_with fail
    refine (four_any _ _).mono ?_
    rintro e' w2 ⟨rfl, rfl⟩
    go_wp2_with fail
    refine (four_any _ _).mono ?_
    rintro e' w2 ⟨rfl, rfl⟩
    go_wp2_with fail
    refine bodyPost_ret (by simp [results, Try.results28, go_sem]) rfl ⟨rfl, ?_⟩
    repeat' (first | with_reducible exact Below.refl _ _ | with_reducible refine Below.drew ?_ | with_reducible refine Below.alloc ?_ ?_ _ | with_reducible refine Below.setCell ?_ ?_ _ | (simp; done) | (simp; omega))
  by_cases h2 : e % 4 = (r.e + 1) % 4
  · rw [if_neg h0] at ho; rw [if_neg h1] at ho; rw [if_pos h2] at ho
    subst ho
    have b0 : (e % 4 == (r.e - 1) % 4) = false := by simp [h0]
    have b1 : (e % 4 == r.e % 4) = false := by simp [h1]
    have b2 : (e % 4 == (r.e + 1) % 4) = true := by simp [h2]
    clear h0 h1 h2
    unfold kyO kyV rgV
    go_enter Try.func28, Try.ntmps28
    go_wp2_with fail
    refine (four_any _ _).mono ?_
    rintro e' w2 ⟨rfl, rfl⟩
    go_wp2_with fail
    refine (four_any _ _).mono ?_
    rintro e' w2 ⟨rfl, rfl⟩
    go_wp2_with fail
    refine (four_any _ _).mono ?_
    rintro e' w2 ⟨rfl, rfl⟩
    go_wp2_with fail
    refine (four_any _ _).mono ?_
    rintro e' w2 ⟨rfl, rfl⟩
    go_wp2_with fail
    refine bodyPost_ret (by simp [results, Try.results28, go_sem]) rfl ⟨rfl, ?_⟩
    repeat' (first | with_reducible exact Below.refl _ _ | with_reducible refine Below.drew ?_ | with_reducible refine Below.alloc ?_ ?_ _ | with_reducible refine Below.setCell ?_ ?_ _ | (simp; done) | (simp; omega))
  · rw [if_neg h0, if_neg h1, if_neg h2] at ho
    subst ho
    have b0 : (e % 4 == (r.e - 1) % 4) = false := by simp [h0]
    have b1 : (e % 4 == r.e % 4) = false := by simp [h1]
    have b2 : (e % 4 == (r.e + 1) % 4) = false := by simp [h2]
    clear h0 h1 h2
    unfold kyO kyV rgV
    go_enter Try.func28, Try.ntmps28
    go_wp2_with fail
    refine (four_any _ _).mono ?_
    rintro e' w2 ⟨rfl, rfl⟩
    go_wp2_with fail
    refine (four_any _ _).mono ?_
    rintro e' w2 ⟨rfl, rfl⟩
    go_wp2_with fail
    refine (four_any _ _).mono ?_
    rintro e' w2 ⟨rfl, rfl⟩
    go_wp2_with fail
    refine (four_any _ _).mono ?_
    rintro e' w2 ⟨rfl, rfl⟩
    go_wp2_with fail
    refine bodyPost_ret (by simp [results, Try.results28, go_sem]) rfl ⟨rfl, ?_⟩
    repeat' (first | with_reducible exact Below.refl _ _ | with_reducible refine Below.drew ?_ | with_reducible refine Below.alloc ?_ ?_ _ | with_reducible refine Below.setCell ?_ ?_ _ | (simp; done) | (simp; omega))

end Go.Proofs.Ytfokkmemjkfifab
