/- The reference's Parse of a gram. -/
import Derived.Test.YteapnfdpkjbfhaaGreatGa
import Derived.Test.YteapnfdpkjbfhaaGreatWirRparse
import Derived.BigQuiet
import Derived.Deep.RegionHeld3
import Derived.Deep.Cut
namespace Go.Proofs.YteapnfdpkjbfhaaGreat
set_option linter.unusedVariables false
set_option linter.unusedSimpArgs false
open Go.RowKit Go.ChangeShapes Go.WideShapes Go.ChangeAt
theorem head_04 {g : Nat → Int} {n : Nat} (h : headE g n = 0 ∨ headE g n = 4) : 16 ≤ n ∧ isK (g 0) = true ∧ num g 2 2 = n ∧ n ≤ 1500 ∧ g 13 = 0 ∧ headE g n = if (norm (tot g 16) == 65535) = false then 4 else 0 := by
 have hx : headE g n = headE g n := rfl
 unfold headE at h
 split at h
 ·rcases h with h | h <;> cases h
 ·split at h
  ·rcases h with h | h <;> cases h
  ·split at h
   ·rcases h with h | h <;> cases h
   ·rename_i h1 h2 h3
    refine ⟨by omega, by simpa using h2, ?_, ?_, ?_, ?_⟩
    ·have hp : pairF g n 2 = num g 2 2 := by unfold pairF; rw [if_neg (by simp at h3; omega)]
     rw [← hp]; simp at h3; exact h3.1.1
    ·simp at h3; omega
    ·simp at h3; exact h3.2
    ·unfold headE; rw [if_neg h1, if_neg h2, if_neg h3]
end Go.Proofs.YteapnfdpkjbfhaaGreat
