/- All of the package. -/
import Derived.Test.YtljgcffpijjliaaDoorPolInv
import Derived.BigQuiet
import Derived.Deep.RegionHeld3
import Derived.Deep.Cut
namespace Go.Proofs.YtljgcffpijjliaaDoor
set_option linter.unusedVariables false
set_option linter.unusedSimpArgs false
open Go.RowKit Go.ChangeShapes Go.WideShapes Go.ChangeAt

theorem ret_block {l : Nat} {Q : Exit → Act → World → Prop} {a : Act} {w : World} (h : Q .ret a w) : Exit.inBlock l Q .ret a w := h
attribute [local irreducible] PA
end Go.Proofs.YtljgcffpijjliaaDoor
