/- What the tops' known does. What the tops' laws share. -/
import Derived.Test.YtalnfkijiehjhaaGreatGa
import Derived.Test.YtalnfkijiehjhaaGreatGz
import Derived.Test.YtalnfkijiehjhaaGreatGwd
import Derived.Test.YtalnfkijiehjhaaGreatGsb
import Derived.Test.YtalnfkijiehjhaaGreatGr
import Derived.Test.YtalnfkijiehjhaaGreatGm
import Derived.BigQuiet
import Derived.Deep.RegionHeld3
import Derived.Deep.Cut
import Derived.IntWalk
import Derived.Test.YtalnfkijiehjhaaGreatPolMake
import Derived.Test.YtalnfkijiehjhaaGreatGx
import Derived.Test.YtalnfkijiehjhaaGreatGkb
namespace Go.Proofs.YtalnfkijiehjhaaGreat
set_option linter.unusedVariables false
set_option linter.unusedSimpArgs false
open Go.RowKit Go.ChangeShapes Go.WideShapes Go.ChangeAt
set_option maxRecDepth 100000
theorem Cp (w:World):(zeroValue 34).run Tryz.prog w =.ok (.agg (FA 330 (pc cm))) w:=by kernel_rfl
attribute [local irreducible] FA FL
end Go.Proofs.YtalnfkijiehjhaaGreat
namespace Go.Proofs.YtalnfkijiehjhaaGreat
set_option linter.unusedVariables false
set_option linter.unusedSimpArgs false
open Go.RowKit Go.ChangeShapes Go.WideShapes Go.ChangeAt
set_option maxRecDepth 100000
theorem AL (W:World)(A1:Option Addr)(n1 c1:Nat)(g1:Nat→Int)(hr1:Is W A1 n1 g1)(hl1:∀ad,A1=some ad→0<n1→ad.block<W.heap.size)(hn1:n1≤c1)(hc1:c1≤maxLen)(m:Nat)(hm:m≤1000)(w:World)(hb:Below W.heap.size W w) :
 Calls Tryz.prog 9 #[.slice A1 n1 c1,(m:Int)] w fun x w'=>x =.returned (.agg (FA 330 (pc (fP g1 (min n1 m)))))∧Below w.heap.size w w':=
 tN w A1 n1 c1 g1 (Sl.below hr1 hb (Nat.le_refl _)) (fun ad e h=>Nat.lt_of_lt_of_le (hl1 ad e h) hb.size) (by have:=hn1;unfold maxLen at hc1;omega) m hm
theorem iy {w:World}{b:Nat}{p:Pl}(h:Fb w b 330 (pc p)):au w b p:=h
end Go.Proofs.YtalnfkijiehjhaaGreat
