/- Package pulse's functions. -/
import Derived.Test.YtcbnebabeekegaaPulMath
import Derived.Test.YtcbnebabeekegaaTakes
import Derived.Carry
namespace Go.Proofs.Ytcbnebabeekegaa
set_option linter.unusedVariables false
set_option linter.unusedSimpArgs false
open Go.RowKit Go.ChangeShapes Go.WideShapes Go.ChangeAt

theorem then_ {W w1 w2 : World} (h : Below W.heap.size W w1) (hb : Below w1.heap.size w1 w2) : Below W.heap.size W w2 := h.trans (hb.mono h.size)
def inB (n m : Int) : Bool := decide (1 ≤ n) && decide (n ≤ m)
theorem pwithin_any (n m : Int) (w : World) : Calls Try.prog 26 #[.int .i64 n, .int .i64 m] w fun e w' => e = .returned (.bool (inB n m)) ∧ w = w' := by
  unfold inB
  cases h1 : decide (1 ≤ n) <;> cases h2 : decide (n ≤ m)
  all_goals
    go_enter Try.func26, Try.ntmps26
    go_wp2
    go_ret
    exact ⟨rfl, rfl⟩
theorem isslot_any (s : Int) (w : World) : Calls Try.prog 27 #[.int .i64 s] w fun e w' => e = .returned (.bool (isSl s)) ∧ w = w' := by
  unfold isSl
  cases h1 : decide (0 ≤ s) <;> cases h2 : decide (s < 64)
  all_goals
    go_enter Try.func27, Try.ntmps27
    go_wp2
    go_ret
    exact ⟨rfl, rfl⟩
theorem new_ok (r f e : Int) (hr : 1 ≤ r ∧ r ≤ 10) (hf : 1 ≤ f ∧ f ≤ 10) (he : 1 ≤ e ∧ e ≤ 1000) (w : World) :
    Calls Try.prog 15 #[.int .i64 r, .int .i64 f, .int .i64 e] w fun x w' => ∃ p b : Nat, x = .returned (.tuple #[.pointer (some ⟨p, 0, none⟩), .int .i64 0]) ∧ PulseAt w' p b 0 r f e (fun _ => none) ∧ w.heap.size ≤ p ∧ w.heap.size ≤ b ∧ Below w.heap.size w w' := by
  have hmm := @run_makeMap Try.prog
  have W1 := hid (fun w => re_bool (b := true) (pwithin_any r 10 w) (by unfold inB; simp; omega))
  have W2 := hid (fun w => re_bool (b := true) (pwithin_any f 10 w) (by unfold inB; simp; omega))
  have W3 := hid (fun w => re_bool (b := true) (pwithin_any e 1000 w) (by unfold inB; simp; omega))
  clear hr hf he
  go_enter Try.func15, Try.ntmps15
  go_wp2_with fail
  refine (W1.out _).mono ?_
  rintro x w' ⟨rfl, rfl⟩
  go_wp2_with fail
  refine (W2.out _).mono ?_
  rintro x w' ⟨rfl, rfl⟩
  go_wp2_with fail
  refine (W3.out _).mono ?_
  rintro x w' ⟨rfl, rfl⟩
  go_wp2_with fail
  go_ret2
  refine ⟨w.heap.size + 1, w.heap.size, rfl, ⟨Ce.made (w := w.alloc (.map #[] 0)) (l := [.int .i64 r, .int .i64 f, .int .i64 e, .map (some w.heap.size)]) (by simp), (MapAt.made w).kept (World.grownBy_alloc _ _ none) (by simp), by omega⟩, by omega, by omega, ((Below.refl _ _).alloc (Nat.le_refl _) _).alloc (by simp) _⟩
def rowV (a : Bool) (n : Int) : Value := .agg #[.bool a, .int .i64 n]
theorem and_any (a : Bool) (n : Int) (x : Bool) (hn : 0 ≤ n ∧ n ≤ 1000000000) (w : World) :
    Calls Try.prog 28 #[.agg #[.bool a, .int .i64 n], .bool x] w fun e w' => e = .returned (.agg #[.bool x, .int .i64 (rowUp a n x)]) ∧ Below w.heap.size w w' := by
  obtain ⟨hn1, hn2⟩ := hn
  unfold rowUp
  cases a <;> cases x
  all_goals
    go_enter Try.func28, Try.ntmps28
    go_wp2_with fail
    first
      | (refine bodyPost_ret (v := .agg #[.bool _, .int .i64 1]) (by simp [results, Try.results28, go_sem]) rfl ⟨rfl, ?_⟩; exact ((Below.refl _ _).alloc (Nat.le_refl _) _).alloc (by simp) _)
      | (refine bodyPost_ret (v := .agg #[.bool _, .int .i64 (n + 1)]) (by simp [results, Try.results28, go_sem]) rfl ⟨rfl, ?_⟩; exact ((Below.refl _ _).alloc (Nat.le_refl _) _).alloc (by simp) _)
set_option maxHeartbeats 8000000 in
theorem judge_any {w : World} {p : Nat} {r f e : Int} {m : Value} (l : Life) (hC : Ce w p [.int .i64 r, .int .i64 f, .int .i64 e, m]) :
    Calls Try.prog 29 #[.pointer (some ⟨p, 0, none⟩), lifeV l] w fun x w' => x = .returned (.int .i64 (verd r f l)) ∧ Below w.heap.size w w' := by
  obtain ⟨up, la, wh, lo⟩ := l
  have hC2 := hC.alloc (.cells #[.bool up, .int .i64 la, .bool wh, .int .i64 lo] 55)
  have c0 := hC2.2.1 0 _ rfl
  have c1 := hC2.2.1 1 _ rfl
  clear hC hC2
  unfold lifeV verd
  simp only
  cases h1 : decide (r ≤ lo) <;> cases h2 : decide (f ≤ lo) <;> cases up <;> cases wh
  all_goals
    go_enter Try.func29, Try.ntmps29
    go_wp2_with fail
    go_quiet (fail)
    go_wp2_with fail
    first
      | (go_ret
         exact ⟨rfl, below_drewN ((Below.refl _ _).alloc (Nat.le_refl _) _) _⟩)
      | (go_quiet (fail)
         go_wp2_with fail
         go_ret
         exact ⟨rfl, below_drewN ((Below.refl _ _).alloc (Nat.le_refl _) _) _⟩)
end Go.Proofs.Ytcbnebabeekegaa
