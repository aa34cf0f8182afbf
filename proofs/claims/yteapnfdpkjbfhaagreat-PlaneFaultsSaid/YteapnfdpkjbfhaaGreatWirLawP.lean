/- Plain lemmas for the laws of packets. -/
import Derived.Test.YteapnfdpkjbfhaaGreatGa
import Derived.Test.YteapnfdpkjbfhaaGreatGwb
import Derived.Test.YteapnfdpkjbfhaaGreatGwc
import Derived.BigQuiet
import Derived.Deep.RegionHeld3
import Derived.Deep.Cut
namespace Go.Proofs.YteapnfdpkjbfhaaGreat
set_option linter.unusedVariables false
set_option linter.unusedSimpArgs false
open Go.RowKit Go.ChangeShapes Go.WideShapes Go.ChangeAt
theorem wr_in {g : Nat → Int} {L a m : Nat} {v : Int} {j : Nat} (h : a ≤ j) (ha : 24 ≤ a) : wrF g L a m v j = putF g a m v j := by
 have hA := (sumA_even (g 0)).choose_spec
 unfold wrF
 split
 ·rfl
 ·have e0 : tbody (sumA (g 0)) L g ((m + a % 2 + 1) / 2) (a - a % 2) (putF g a m v) 0 = g 0 := by rw [tbody_out (by omega), putF_out (by omega)]
  by_cases k2 : g 0 = 2
  ·rw [fillF_out (by omega), tbody_out (by omega)]
  ·rw [fillF_3 (by rw [e0]; exact k2), tbody_out (by omega)]
end Go.Proofs.YteapnfdpkjbfhaaGreat
