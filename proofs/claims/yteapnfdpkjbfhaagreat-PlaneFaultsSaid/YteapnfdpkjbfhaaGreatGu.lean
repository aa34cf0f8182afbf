/- What the tops' known does. What the tops' laws share. -/
import Derived.Test.YteapnfdpkjbfhaaGreatGa
import Derived.Test.YteapnfdpkjbfhaaGreatGz
import Derived.Test.YteapnfdpkjbfhaaGreatGwd
import Derived.Test.YteapnfdpkjbfhaaGreatGsb
import Derived.Test.YteapnfdpkjbfhaaGreatGr
import Derived.Test.YteapnfdpkjbfhaaGreatGm
import Derived.BigQuiet
import Derived.Deep.RegionHeld3
import Derived.Deep.Cut
import Derived.IntWalk
import Derived.Test.YteapnfdpkjbfhaaGreatPolMake
import Derived.Test.YteapnfdpkjbfhaaGreatGx
import Derived.Test.YteapnfdpkjbfhaaGreatGkb
namespace Go.Proofs.YteapnfdpkjbfhaaGreat
set_option linter.unusedVariables false
set_option linter.unusedSimpArgs false
open Go.RowKit Go.ChangeShapes Go.WideShapes Go.ChangeAt
set_option maxRecDepth 100000
theorem zpl2 (w : World) : (zeroValue 33).run Tryz.prog w = .ok (.agg (FA 330 (pc zPl))) w := by kernel_rfl
attribute [local irreducible] FA FL
end Go.Proofs.YteapnfdpkjbfhaaGreat
namespace Go.Proofs.YteapnfdpkjbfhaaGreat
set_option linter.unusedVariables false
set_option linter.unusedSimpArgs false
open Go.RowKit Go.ChangeShapes Go.WideShapes Go.ChangeAt
set_option maxRecDepth 100000
theorem mk_top (W : World) (A1 : Option Addr) (n1 c1 : Nat) (g1 : Nat → Int) (hr1 : Is W A1 n1 g1) (hl1 : ∀ ad, A1 = some ad → 0 < n1 → ad.block < W.heap.size) (hn1 : n1 ≤ c1) (hc1 : c1 ≤ maxLen) (m : Nat) (hm : m ≤ 1000) (w : World) (hb : Below W.heap.size W w) :
 Calls Tryz.prog 10 #[.slice A1 n1 c1, .int .i64 (m : Int)] w fun x w' => x = .returned (.agg (FA 330 (pc (mkP g1 (min n1 m))))) ∧ Below w.heap.size w w' :=
 make_anyP w A1 n1 c1 g1 (Sl.below hr1 hb (Nat.le_refl _)) (fun ad e h => Nat.lt_of_lt_of_le (hl1 ad e h) hb.size) (by have := hn1; unfold maxLen at hc1; omega) m hm
theorem pool_fb {w : World} {b : Nat} {p : Pl} (h : Fb w b 330 (pc p)) : PoolAt w b p := h
end Go.Proofs.YteapnfdpkjbfhaaGreat
