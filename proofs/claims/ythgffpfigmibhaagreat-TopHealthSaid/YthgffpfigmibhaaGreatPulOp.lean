/- Due, Told, Up, Drop. -/
import Derived.Test.YthgffpfigmibhaaGreatGa
import Derived.Test.YthgffpfigmibhaaGreatPulFn
namespace Go.Proofs.YthgffpfigmibhaaGreat
set_option linter.unusedVariables false
set_option linter.unusedSimpArgs false
open Go.RowKit Go.ChangeShapes Go.WideShapes Go.ChangeAt

def LifeOk (l : Life) : Prop := I64 l.2.1 ∧ 0 ≤ l.2.2.2 ∧ l.2.2.2 ≤ 1000000
end Go.Proofs.YthgffpfigmibhaaGreat
