/- The laws' helper known. -/
import Derived.Test.YtlfionfnpieoiaaGreatGr
import Derived.Test.YtlfionfnpieoiaaGreatPolNew
import Derived.BigQuiet
import Derived.Deep.RegionHeld3
import Derived.Deep.Cut
namespace Go.Proofs.YtlfionfnpieoiaaGreat
set_option linter.unusedVariables false
set_option linter.unusedSimpArgs false
open Go.RowKit Go.ChangeShapes Go.WideShapes Go.ChangeAt
def kE1 : En := ⟨1, 5, 3, 4, 1, zKy⟩
def kE2 : En := ⟨2, 5, 0, 0, 0, zKy⟩
def kG (j : Nat) : En := if j = 0 then kE1 else kE2
def kQ0 : Pl := ⟨2, 1, 2, setS (setS (fun _ => zSp) 5 ⟨1, 3, 4, 1, 0⟩) 5 ⟨2, 3, 4, 1, 0⟩, ⟨1, zKy, ⟨1, 0⟩, ⟨2, 0⟩⟩⟩
theorem kA : apR kQ0 ⟨5, 5, 0, 0, 0, zKy⟩ = (zPl, 12) := rfl
attribute [local irreducible] PA
end Go.Proofs.YtlfionfnpieoiaaGreat
