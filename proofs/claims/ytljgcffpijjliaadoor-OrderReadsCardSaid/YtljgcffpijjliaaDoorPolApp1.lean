/- Whether an entry fits. -/
import Derived.Test.YtljgcffpijjliaaDoorPolFit
import Derived.Test.YtljgcffpijjliaaDoorPolHeld
import Derived.BigQuiet
import Derived.Deep.RegionHeld3
import Derived.Deep.Cut
namespace Go.Proofs.YtljgcffpijjliaaDoor
set_option linter.unusedVariables false
set_option linter.unusedSimpArgs false
open Go.RowKit Go.ChangeShapes Go.WideShapes Go.ChangeAt

def fitB (p : Pl) (e : En) (i : Nat) : Bool :=
  bif e.k == 1 then ((p.s i).st == 0 && !heldB p e.a e.p) else bif (e.k == 2 || e.k == 4) then ((p.s i).st == 1 || (p.s i).st == 3) else bif e.k == 3 then (p.s i).st == 2 else bif e.k == 5 then (p.s i).st == 4 else true
def refE (p : Pl) (e : En) (i : Nat) : Int := bif !(fitB p e i) then 12 else bif (e.k == 5 && decide (p.r.e < (p.s i).si + 3)) then 13 else 0
def chS (p : Pl) (e : En) (i : Nat) : Sp :=
  bif e.k == 1 then ⟨1, e.a, e.p, e.w, 0⟩ else bif e.k == 2 then { p.s i with st := 2 } else bif e.k == 3 then { p.s i with st := 3 } else bif e.k == 4 then { p.s i with st := 4, si := p.r.e } else bif e.k == 5 then zSp else p.s i
end Go.Proofs.YtljgcffpijjliaaDoor
