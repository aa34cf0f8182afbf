/- What goes on through a unit is whole where it was. What goes through two units, out and in. -/
import Derived.Test.YtalnfkijiehjhaaGreatGa
import Derived.Test.YtalnfkijiehjhaaGreatTpk
import Derived.Test.YtalnfkijiehjhaaGreatGz
import Derived.BigQuiet
import Derived.Deep.RegionHeld3
import Derived.Deep.Cut
import Derived.IntWalk
import Derived.Test.YtalnfkijiehjhaaGreatMkp
namespace Go.Proofs.YtalnfkijiehjhaaGreat
set_option linter.unusedVariables false
set_option linter.unusedSimpArgs false
open Go.RowKit Go.ChangeShapes Go.WideShapes Go.ChangeAt
structure Me (x:Pk):Prop where
 kd:x.kind=1∨x.kind=2
 tp:0≤x.tp∧x.tp≤65535
 fl:0≤x.flags∧x.flags≤15
 lb:0≤x.label∧x.label≤65535
 cl:(x.kind≠1→x.flags=0∧x.no=0)∧(x.kind≠2→x.label=0∧x.bare=false)∧x.code=0
 go:aC x.go
 gd:aC x.gd
 no:x.no≤40
 nd:x.nd≤200
end Go.Proofs.YtalnfkijiehjhaaGreat
