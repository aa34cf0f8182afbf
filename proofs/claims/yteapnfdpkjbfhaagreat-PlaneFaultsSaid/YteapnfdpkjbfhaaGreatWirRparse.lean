/- The reference's Parse. -/
import Derived.Test.YteapnfdpkjbfhaaGreatGa
import Derived.Test.YteapnfdpkjbfhaaGreatGwb
import Derived.BigQuiet
import Derived.Deep.RegionHeld3
import Derived.Deep.Cut
namespace Go.Proofs.YteapnfdpkjbfhaaGreat
set_option linter.unusedVariables false
set_option linter.unusedSimpArgs false
open Go.RowKit Go.ChangeShapes Go.WideShapes Go.ChangeAt
theorem kind_3 {x : Int} (h : isK x = true) : x = 1 ∨ x = 2 ∨ x = 3 := by unfold isK at h; simp at h; omega
theorem parseE_head {g : Nat → Int} {n : Nat} (e : Int) (h : headE g n = e) (he : e ≠ 0) : parseE g n = e := by unfold parseE; rw [h, if_neg he]
end Go.Proofs.YteapnfdpkjbfhaaGreat
