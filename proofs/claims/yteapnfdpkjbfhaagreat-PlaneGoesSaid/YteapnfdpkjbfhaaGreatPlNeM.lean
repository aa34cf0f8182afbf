/- The stamp that came last, pure. -/
import Derived.Test.YteapnfdpkjbfhaaGreatGa
import Derived.Test.YteapnfdpkjbfhaaGreatTkBy
import Derived.Test.YteapnfdpkjbfhaaGreatTopChM
import Derived.Test.YteapnfdpkjbfhaaGreatTopRtS
import Derived.Test.YteapnfdpkjbfhaaGreatGr
import Derived.Test.YteapnfdpkjbfhaaGreatGx
import Derived.Test.YteapnfdpkjbfhaaGreatPolUq
import Derived.BigQuiet
import Derived.Deep.RegionHeld3
import Derived.Deep.Cut
import Derived.IntWalk
namespace Go.Proofs.YteapnfdpkjbfhaaGreat
set_option linter.unusedVariables false
set_option linter.unusedSimpArgs false
open Go.RowKit Go.ChangeShapes Go.WideShapes Go.ChangeAt
set_option maxRecDepth 100000
end Go.Proofs.YteapnfdpkjbfhaaGreat
