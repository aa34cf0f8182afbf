/- What a slot's life becomes. -/
import Derived.Test.YthgffpfigmibhaaGreatGa
import Derived.Test.YthgffpfigmibhaaGreatPulMap
namespace Go.Proofs.YthgffpfigmibhaaGreat
set_option linter.unusedVariables false
set_option linter.unusedSimpArgs false
open Go.RowKit Go.ChangeShapes Go.WideShapes Go.ChangeAt

def rowUp (wh : Bool) (lo : Int) (x : Bool) : Int := if wh = x then lo + 1 else 1
def verd (r f : Int) (l : Life) : Int := if (!l.1 && l.2.2.1 && decide (r ≤ l.2.2.2)) = true then 1 else if (l.1 && !l.2.2.1 && decide (f ≤ l.2.2.2)) = true then 2 else 0
def lifeUp (l : Life) (now : Int) (ok : Bool) : Life := (l.1, now, ok, rowUp l.2.2.1 l.2.2.2 ok)
def toldV (r f : Int) (l : Life) (now : Int) (ok : Bool) : Int := verd r f (lifeUp l now ok)
def toldL (r f : Int) (l : Life) (now : Int) (ok : Bool) : Life := if toldV r f l now ok = 0 then lifeUp l now ok else (toldV r f l now ok == 1, now, false, 0)
def cur (M : Int → Option Life) (s : Int) : Life := (M s).getD zLife
def isSl (s : Int) : Bool := decide (0 ≤ s) && decide (s < 64)
/-- A pulse at block p, its map in block b. -/
def PulseAt (w : World) (p b n : Nat) (r f e : Int) (M : Int → Option Life) : Prop := Ce w p [.int .i64 r, .int .i64 f, .int .i64 e, .map (some b)] ∧ MapAt w b n M ∧ p ≠ b
end Go.Proofs.YthgffpfigmibhaaGreat
