/- Stamps that were made are found. -/
import Derived.Test.YteapnfdpkjbfhaaGreatGa
import Derived.Test.YteapnfdpkjbfhaaGreatGo
namespace Go.Proofs.YteapnfdpkjbfhaaGreat
set_option linter.unusedVariables false
set_option linter.unusedSimpArgs false
open Go.RowKit Go.ChangeShapes Go.WideShapes Go.ChangeAt
theorem one_ext {g g' : Nat → Int} {n a : Nat} (h : ∀ j, j < n → g j = g' j) (ha : a < n) : oneO g n a = oneO g' n a := by
 unfold oneO
 rw [h a ha]
 by_cases h1 : n ≤ a + 1
 ·rw [if_pos h1, if_pos h1]
 ·rw [h (a + 1) (by omega)]
theorem wk_ext {g g' : Nat → Int} {n : Nat} (h : ∀ j, j < n → g j = g' j) : ∀ f a, wk g n f a = wk g' n f a := by
 intro f
 induction f with
 | zero => intro a; rfl
 | succ f ih =>
   intro a
   simp only [wk]
   by_cases hn : n ≤ a
   ·rw [if_pos hn, if_pos hn]
   ·rw [if_neg hn, if_neg hn, one_ext h (by omega)]
    cases oneO g' n a with
    | none => rfl
    | some o => simp only [ih]
theorem stamp_ext {g g' : Nat → Int} {n : Nat} (h : ∀ j, j < n → g j = g' j) : stamp g n = stamp g' n := by
 unfold stamp
 have hw : walk g n 0 = walk g' n 0 := wk_ext h _ _
 rw [hw]
 cases hc : walk g' n 0 with
 | none => rfl
 | some l =>
   unfold stS
   dsimp only
   cases hf : fst l with
   | none => rfl
   | some o =>
     have := fst_is hc hf
     dsimp only
     unfold numO
     rw [h _ (by omega), h _ (by omega), h _ (by omega), h _ (by omega), h (o.2.1.toNat + 6) (by omega), h (o.2.1.toNat + 6 + 1) (by omega), h (o.2.1.toNat + 6 + 2) (by omega), h (o.2.1.toNat + 6 + 3) (by omega)]
end Go.Proofs.YteapnfdpkjbfhaaGreat
