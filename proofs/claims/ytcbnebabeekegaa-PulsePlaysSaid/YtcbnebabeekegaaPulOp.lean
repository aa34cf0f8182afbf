/- Due, Told, Up, Drop. -/
import Derived.Test.YtcbnebabeekegaaPulFn
namespace Go.Proofs.Ytcbnebabeekegaa
set_option linter.unusedVariables false
set_option linter.unusedSimpArgs false
open Go.RowKit Go.ChangeShapes Go.WideShapes Go.ChangeAt

def LifeOk (l : Life) : Prop := I64 l.2.1 ∧ 0 ≤ l.2.2.2 ∧ l.2.2.2 ≤ 1000000
theorem up_any {w : World} {p b n : Nat} {r f e : Int} {M : Int → Option Life} (h : PulseAt w p b n r f e M) (s : Int) (hs : I64 s) :
    Calls Try.prog 21 #[.pointer (some ⟨p, 0, none⟩), .int .i64 s] w fun x w' => x = .returned (.bool (cur M s).1) ∧ w = w' := by
  obtain ⟨hC, hM, hne⟩ := h
  have c3 := hC.2.1 3 _ rfl
  have lk := hM.look Try.underlying44 (zero_life w) hs
  have hcur : (M s).getD zLife = cur M s := rfl
  rw [hcur] at lk
  obtain ⟨⟨u, a, wh, lo⟩, hl⟩ : ∃ l : Life, l = cur M s := ⟨_, rfl⟩
  rw [← hl] at lk ⊢
  unfold lifeV at lk
  simp only at lk ⊢
  have hf : ∀ w : World, (Instr.field 55 (.agg #[.bool u, .int .i64 a, .bool wh, .int .i64 lo]) 0).run Try.prog w = .ok (.bool u) w := fun w => by simp [Instr.field, run_underlying Try.underlying55, asAgg, go_sem]
  clear hC hM hl hcur
  go_enter Try.func21, Try.ntmps21
  go_wp2
  go_ret
  exact ⟨rfl, rfl⟩
theorem due_any {w : World} {p b n : Nat} {r f e : Int} {M : Int → Option Life} (h : PulseAt w p b n r f e M) (s now : Int) (hs : I64 s) (hl : I64 (cur M s).2.1) (hn : 0 ≤ now ∧ now ≤ 1099511627776) (hl0 : 0 ≤ (cur M s).2.1) :
    Calls Try.prog 19 #[.pointer (some ⟨p, 0, none⟩), .int .i64 s, .int .i64 now] w fun x w' => x = .returned (.bool (isSl s && (!(M s).isSome || decide (e ≤ now - (cur M s).2.1)))) ∧ Below w.heap.size w w' := by
  obtain ⟨hC, hM, hne⟩ := h
  have IS := isslot_any s
  cases hi : isSl s
  · rw [hi] at IS
    have H := hid IS
    clear IS hC hM
    go_enter Try.func19, Try.ntmps19
    go_wp2_with fail
    refine (H.out _).mono ?_
    rintro x w' ⟨rfl, rfl⟩
    go_wp2
    go_ret
    exact ⟨rfl, Below.refl _ _⟩
  · rw [hi] at IS
    have H := hid IS
    have c3 := hC.2.1 3 _ rfl
    have lk := hM.look_ok Try.underlying44 (zero_life w) hs
    have hcur : (M s).getD zLife = cur M s := rfl
    rw [hcur] at lk
    obtain ⟨⟨u, a, wh, lo⟩, hll⟩ : ∃ l : Life, l = cur M s := ⟨_, rfl⟩
    rw [← hll] at lk hl hl0 ⊢
    unfold lifeV at lk
    simp only at lk hl hl0 ⊢
    have hC2 := hC.alloc (.cells #[.bool u, .int .i64 a, .bool wh, .int .i64 lo] 55)
    have d2 := hC2.2.1 2 _ rfl
    have d3 := hC2.2.1 3 _ rfl
    obtain ⟨hn1, hn2⟩ := hn
    unfold I64 at hl
    obtain ⟨hl1, hl2⟩ := hl
    generalize (M s).isSome = o at *
    clear IS hC hM hll hcur hi hC2
    have q1 : IntKind.i64.wrap (now - a) = now - a := IntWalk.i64_in _ (by omega)
    cases o
    · go_enter Try.func19, Try.ntmps19
      go_wp2_with fail
      refine (H.out _).mono ?_
      rintro x w' ⟨rfl, rfl⟩
      go_wp2_with fail
      go_quiet (fail)
      go_wp2_with fail
      go_ret
      exact ⟨rfl, below_drewN ((Below.refl _ _).alloc (Nat.le_refl _) _) _⟩
    · cases hd : decide (e ≤ now - a)
      all_goals
        go_enter Try.func19, Try.ntmps19
        go_wp2_with fail
        refine (H.out _).mono ?_
        rintro x w' ⟨rfl, rfl⟩
        go_wp2_with fail
        go_quiet (fail)
        go_wp2_with fail
        go_ret
        exact ⟨rfl, below_drewN ((Below.refl _ _).alloc (Nat.le_refl _) _) _⟩
end Go.Proofs.Ytcbnebabeekegaa
