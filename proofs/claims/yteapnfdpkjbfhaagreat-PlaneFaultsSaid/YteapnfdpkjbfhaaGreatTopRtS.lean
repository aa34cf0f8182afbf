/- A slot that takes is found. -/
import Derived.Test.YteapnfdpkjbfhaaGreatGa
import Derived.Test.YteapnfdpkjbfhaaGreatTopPk
import Derived.BigQuiet
import Derived.Deep.RegionHeld3
import Derived.Deep.Cut
import Derived.IntWalk
namespace Go.Proofs.YteapnfdpkjbfhaaGreat
set_option linter.unusedVariables false
set_option linter.unusedSimpArgs false
open Go.RowKit Go.ChangeShapes Go.WideShapes Go.ChangeAt
theorem c0B_ : IsB (fun _ => (0 : Int)) := fun _ => ⟨(by decide : (0 : Int) ≤ 0), (by decide : (0 : Int) ≤ 255)⟩
theorem x_B {x : Pk} (hgd : IsB x.gd) (hgo : IsB x.go) (hE : buildE x = 0) : IsB (builtF x) := builtF_B hgd hgo hE
end Go.Proofs.YteapnfdpkjbfhaaGreat
