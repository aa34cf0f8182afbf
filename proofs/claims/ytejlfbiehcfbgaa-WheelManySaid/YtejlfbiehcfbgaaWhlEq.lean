/- An array of numbers against another one; built, indexed. -/
import Derived.Test.YtejlfbiehcfbgaaWhlWt
import Derived.BigQuiet
import Derived.Deep.RegionHeld3
import Derived.Deep.Cut
namespace Go.Proofs.Ytejlfbiehcfbgaa
set_option linter.unusedVariables false
set_option linter.unusedSimpArgs false
open Go.RowKit Go.ChangeShapes Go.WideShapes Go.ChangeAt

section
variable {P : Program}
theorem run_equalIn_arr2 (w : World) (d : Nat) (t elem : TypeId) (len n : Nat) (xs ys : Array Value) (hu : P.underlying t = some (.array len elem)) (hs : (sizeOf elem).run P w = .ok n w) (f g : Nat → Value) (e : Nat → Bool)
    (hp : ∀ i, i < len → (part elem xs (i * n)).run P w = .ok (f i) w) (hq : ∀ i, i < len → (part elem ys (i * n)).run P w = .ok (g i) w) (he : ∀ i, i < len → (Op.equalIn d elem (f i) (g i)).run P w = .ok (e i) w) :
    (Op.equalIn (d + 1) t (.agg xs) (.agg ys)).run P w = .ok ((List.range' 0 len 1).all e) w := by
  simp only [Op.equalIn, Sem.run_bind, run_underlying hu, Result.andThen_ok, hs]
  rw [Std.Legacy.Range.forIn_eq_forIn_range']
  have hl : ∀ j ∈ List.range' 0 len 1, j < len := fun j hj => by simp at hj; omega
  simp only [Std.Legacy.Range.size, Nat.sub_zero, Nat.add_sub_cancel, Nat.div_one]
  revert hl
  generalize List.range' 0 len 1 = l
  intro hl
  induction l with
  | nil => simp
  | cons j l ih =>
    have hj := hl j (List.mem_cons_self ..)
    have ih' := ih (fun i hi => hl i (List.mem_cons_of_mem _ hi))
    cases hb : e j
    · simp only [List.forIn_cons, Sem.run_bind, hp j hj, hq j hj, Result.andThen_ok, he j hj, hb, Bool.not_false, if_true, Sem.run_pure, List.all_cons, Bool.false_and]
    · simp only [List.forIn_cons, Sem.run_bind, hp j hj, hq j hj, Result.andThen_ok, he j hj, hb, Bool.not_true, Bool.false_eq_true, if_false, Sem.run_pure, List.all_cons, Bool.true_and]
      exact ih'
end
theorem part_ia (n : Nat) (f : Nat → Int) (i : Nat) (hi : i < n) (w : World) : (part 3 (ia n f) (i * 1)).run Try.prog w = .ok (.int .i64 (f i)) w := by
  have ai : (isAgg 3).run Try.prog w = .ok false w := by kernel_rfl
  have e0 := ia_at n f i hi
  rw [Nat.mul_one]
  simp [part, ai, e0, go_sem]
theorem eq_ia (f g : Nat → Int) (w : World) : (Op.equalIn 10000 60 (.agg (ia 64 f)) (.agg (ia 64 g))).run Try.prog w = .ok ((List.range' 0 64 1).all fun j => f j == g j) w :=
  run_equalIn_arr2 w 9999 60 3 64 1 (ia 64 f) (ia 64 g) Try.underlying60 (by kernel_rfl) (fun i => .int .i64 (f i)) (fun i => .int .i64 (g i)) _ (fun i hi => part_ia 64 f i hi w) (fun i hi => part_ia 64 g i hi w) (fun i _ => run_equalIn_int w 9998 3 .i64 .i64 (f i) (g i) Try.underlying3)
theorem ex_eql_a {o : Oper} {h : Operand → Value} (x y : Operand) (ho : o.op = .binOp .eql 60 x y 60) (f g : Nat → Int) (r : Bool) (hx : h x = .agg (ia 64 f)) (hy : h y = .agg (ia 64 g)) (hr : ((List.range' 0 64 1).all fun j => f j == g j) = r) (w : World) : (execOp h o).run Try.prog w = .ok (.value (.bool r)) w := by
  have hg : (eqGuard .eql 60 x y (.agg (ia 64 f)) (.agg (ia 64 g))).run Try.prog w = .ok () w := run_eqGuard_agg w _ _ _ _ _ _ (by kernel_rfl)
  unfold execOp
  simp only [ho, hx, hy, Sem.run_bind, hg, Result.andThen_ok, run_eql_struct, eq_ia, Sem.run_pure, hr]
theorem build60 (w : World) : (Instr.build 60 #[]).run Try.prog w = .ok (.agg (ia 64 fun _ => 0)) w := run_build w _ _ _ (by kernel_rfl)
theorem index_ia (f : Nat → Int) (i : Nat) (hi : i < 64) (w : World) : (Instr.index 60 (.agg (ia 64 f)) (.int .i64 (i : Int))).run Try.prog w = .ok (.int .i64 (f i)) w := by
  have hsz : (sizeOf 3).run Try.prog w = .ok 1 w := by kernel_rfl
  have hp := part_ia 64 f i hi w
  have hu := run_underlying (P := Try.prog) Try.underlying60 w
  simp only [Instr.index, asIntOf, Sem.run_bind, Sem.run_pure, Result.andThen_ok, hu]
  rw [if_pos (by omega)]
  simp only [Sem.run_bind, hsz, Result.andThen_ok, Int.toNat_natCast, hp]
theorem zeros_ia (n : Nat) : Array.replicate n (Value.int .i64 0) = ia n (fun _ => 0) := by
  apply Array.ext
  · simp [ia_size]
  · intro j h1 h2
    have hj : j < n := by simpa using h1
    have := ia_at n (fun _ => 0) j hj
    rw [Array.getElem?_eq_getElem h2] at this
    rw [Option.some.inj this]
    simp
end Go.Proofs.Ytejlfbiehcfbgaa
