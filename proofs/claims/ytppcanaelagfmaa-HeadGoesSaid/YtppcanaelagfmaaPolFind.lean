/- Find. -/
import Derived.Test.YtppcanaelagfmaaPolWl
import Derived.BigQuiet
import Derived.Deep.RegionHeld3
import Derived.Deep.Cut
namespace Go.Proofs.Ytppcanaelagfmaa
set_option linter.unusedVariables false
set_option linter.unusedSimpArgs false
open Go.RowKit Go.ChangeShapes Go.WideShapes Go.ChangeAt

def fdV (o : Option Nat) : Value := .tuple #[.int .i64 (o.getD 0 : Nat), .bool o.isSome]
/-- States are states. -/
def StI (p : Pl) : Prop := ∀ i, i < 64 → 0 ≤ (p.s i).st ∧ (p.s i).st ≤ 4
theorem takes_04 {s : Int} (h : 0 ≤ s ∧ s ≤ 4) : takesB s = (s != 0 && s != 4) := by
  unfold takesB
  have : s = 0 ∨ s = 1 ∨ s = 2 ∨ s = 3 ∨ s = 4 := by omega
  rcases this with rfl | rfl | rfl | rfl | rfl <;> rfl
end Go.Proofs.Ytppcanaelagfmaa
