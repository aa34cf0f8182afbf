/- Whether a place is taken; the least free slot. -/
import Derived.Test.YthgffpfigmibhaaGreatGa
import Derived.Test.YthgffpfigmibhaaGreatOrdMath
import Derived.Test.YthgffpfigmibhaaGreatGf
import Derived.BigQuiet
import Derived.Deep.RegionHeld3
import Derived.Deep.Cut
namespace Go.Proofs.YthgffpfigmibhaaGreat
set_option linter.unusedVariables false
set_option linter.unusedSimpArgs false
open Go.RowKit Go.ChangeShapes Go.WideShapes Go.ChangeAt

end Go.Proofs.YthgffpfigmibhaaGreat
