/- Build and Parse of packets that are told by their fields. -/
import Derived.Test.YteapnfdpkjbfhaaGreatGa
import Derived.Test.YteapnfdpkjbfhaaGreatTopPk
import Derived.Test.YteapnfdpkjbfhaaGreatGwd
import Derived.BigQuiet
import Derived.Deep.RegionHeld3
import Derived.Deep.Cut
namespace Go.Proofs.YteapnfdpkjbfhaaGreat
set_option linter.unusedVariables false
set_option linter.unusedSimpArgs false
open Go.RowKit Go.ChangeShapes Go.WideShapes Go.ChangeAt
end Go.Proofs.YteapnfdpkjbfhaaGreat
