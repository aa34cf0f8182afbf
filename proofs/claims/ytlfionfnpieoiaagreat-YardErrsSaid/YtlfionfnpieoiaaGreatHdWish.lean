/- What is wished. -/
import Derived.Test.YtlfionfnpieoiaaGreatGi
import Derived.BigQuiet
import Derived.Deep.RegionHeld3
import Derived.Deep.Cut
import Derived.IntWalk
namespace Go.Proofs.YtlfionfnpieoiaaGreat
set_option linter.unusedVariables false
set_option linter.unusedSimpArgs false
open Go.RowKit Go.ChangeShapes Go.WideShapes Go.ChangeAt
section
variable {w : World} {b c m n : Nat} {h : Hd}
attribute [local irreducible] FA FL
end
end Go.Proofs.YtlfionfnpieoiaaGreat
