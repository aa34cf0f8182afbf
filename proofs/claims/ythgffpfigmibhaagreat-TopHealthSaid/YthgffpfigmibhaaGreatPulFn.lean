/- Package pulse's functions. -/
import Derived.Test.YthgffpfigmibhaaGreatGa
import Derived.Test.YthgffpfigmibhaaGreatPulMath
import Derived.Carry
namespace Go.Proofs.YthgffpfigmibhaaGreat
set_option linter.unusedVariables false
set_option linter.unusedSimpArgs false
open Go.RowKit Go.ChangeShapes Go.WideShapes Go.ChangeAt

def inB (n m : Int) : Bool := decide (1 ≤ n) && decide (n ≤ m)
theorem pwithin_anyQ (n m : Int) (w : World) : Calls Tryz.prog 56 #[.int .i64 n, .int .i64 m] w fun e w' => e = .returned (.bool (inB n m)) ∧ w = w' := by
  unfold inB
  cases h1 : decide (1 ≤ n) <;> cases h2 : decide (n ≤ m)
  all_goals
    go_enter Tryz.func56, Tryz.ntmps56
    go_wp2
    go_ret
    exact ⟨rfl, rfl⟩
theorem isslot_any (s : Int) (w : World) : Calls Tryz.prog 57 #[.int .i64 s] w fun e w' => e = .returned (.bool (isSl s)) ∧ w = w' := by
  unfold isSl
  cases h1 : decide (0 ≤ s) <;> cases h2 : decide (s < 64)
  all_goals
    go_enter Tryz.func57, Tryz.ntmps57
    go_wp2
    go_ret
    exact ⟨rfl, rfl⟩
theorem pnew_ok (r f e : Int) (hr : 1 ≤ r ∧ r ≤ 10) (hf : 1 ≤ f ∧ f ≤ 10) (he : 1 ≤ e ∧ e ≤ 1000) (w : World) :
    Calls Tryz.prog 21 #[.int .i64 r, .int .i64 f, .int .i64 e] w fun x w' => ∃ p b : Nat, x = .returned (.tuple #[.pointer (some ⟨p, 0, none⟩), .int .i64 0]) ∧ PulseAt w' p b 0 r f e (fun _ => none) ∧ w.heap.size ≤ p ∧ w.heap.size ≤ b ∧ Below w.heap.size w w' := by
  have hmm := @run_makeMap Tryz.prog
  have W1 := hid (fun w => re_bool (b := true) (pwithin_anyQ r 10 w) (by unfold inB; simp; omega))
  have W2 := hid (fun w => re_bool (b := true) (pwithin_anyQ f 10 w) (by unfold inB; simp; omega))
  have W3 := hid (fun w => re_bool (b := true) (pwithin_anyQ e 1000 w) (by unfold inB; simp; omega))
  clear hr hf he
  go_enter Tryz.func21, Tryz.ntmps21
  go_wp2_with fail
  refine (W1.out _).mono ?_
  rintro x w' ⟨rfl, rfl⟩
  go_wp2_with fail
  refine (W2.out _).mono ?_
  rintro x w' ⟨rfl, rfl⟩
  go_wp2_with fail
  refine (W3.out _).mono ?_
  rintro x w' ⟨rfl, rfl⟩
  go_wp2_with fail
  go_ret2
  refine ⟨w.heap.size + 1, w.heap.size, rfl, ⟨Ce.made (w := w.alloc (.map #[] 0)) (l := [.int .i64 r, .int .i64 f, .int .i64 e, .map (some w.heap.size)]) (by simp), (MapAt.made w).kept (World.grownBy_alloc _ _ none) (by simp), by omega⟩, by omega, by omega, ((Below.refl _ _).alloc (Nat.le_refl _) _).alloc (by simp) _⟩
def rowV (a : Bool) (n : Int) : Value := .agg #[.bool a, .int .i64 n]
theorem and_any (a : Bool) (n : Int) (x : Bool) (hn : 0 ≤ n ∧ n ≤ 1000000000) (w : World) :
    Calls Tryz.prog 58 #[.agg #[.bool a, .int .i64 n], .bool x] w fun e w' => e = .returned (.agg #[.bool x, .int .i64 (rowUp a n x)]) ∧ Below w.heap.size w w' := by
  obtain ⟨hn1, hn2⟩ := hn
  unfold rowUp
  cases a <;> cases x
  all_goals
    go_enter Tryz.func58, Tryz.ntmps58
    go_wp2_with fail
    first
      | (refine bodyPost_ret (v := .agg #[.bool _, .int .i64 1]) (by simp [results, Tryz.results58, go_sem]) rfl ⟨rfl, ?_⟩; exact ((Below.refl _ _).alloc (Nat.le_refl _) _).alloc (by simp) _)
      | (refine bodyPost_ret (v := .agg #[.bool _, .int .i64 (n + 1)]) (by simp [results, Tryz.results58, go_sem]) rfl ⟨rfl, ?_⟩; exact ((Below.refl _ _).alloc (Nat.le_refl _) _).alloc (by simp) _)
set_option maxHeartbeats 8000000 in
theorem judge_any {w : World} {p : Nat} {r f e : Int} {m : Value} (l : Life) (hC : Ce w p [.int .i64 r, .int .i64 f, .int .i64 e, m]) :
    Calls Tryz.prog 59 #[.pointer (some ⟨p, 0, none⟩), lifeV l] w fun x w' => x = .returned (.int .i64 (verd r f l)) ∧ Below w.heap.size w w' := by
  obtain ⟨up, la, wh, lo⟩ := l
  have hC2 := hC.alloc (.cells #[.bool up, .int .i64 la, .bool wh, .int .i64 lo] 126)
  have c0 := hC2.2.1 0 _ rfl
  have c1 := hC2.2.1 1 _ rfl
  clear hC hC2
  unfold lifeV verd
  simp only
  cases h1 : decide (r ≤ lo) <;> cases h2 : decide (f ≤ lo) <;> cases up <;> cases wh
  all_goals
    go_enter Tryz.func59, Tryz.ntmps59
    go_wp2_with fail
    go_quiet (fail)
    go_wp2_with fail
    first
      | (go_ret
         exact ⟨rfl, below_drewN ((Below.refl _ _).alloc (Nat.le_refl _) _) _⟩)
      | (go_quiet (fail)
         go_wp2_with fail
         go_ret
         exact ⟨rfl, below_drewN ((Below.refl _ _).alloc (Nat.le_refl _) _) _⟩)
end Go.Proofs.YthgffpfigmibhaaGreat
