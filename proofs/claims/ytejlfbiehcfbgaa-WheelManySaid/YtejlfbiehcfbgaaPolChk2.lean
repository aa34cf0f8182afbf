/- The package's Check. -/
import Derived.Test.YtejlfbiehcfbgaaPolChk
import Derived.BigQuiet
import Derived.Deep.RegionHeld3
import Derived.Deep.Cut
namespace Go.Proofs.Ytejlfbiehcfbgaa
set_option linter.unusedVariables false
set_option linter.unusedSimpArgs false
open Go.RowKit Go.ChangeShapes Go.WideShapes Go.ChangeAt

/-- Why an entry may not be, whatever the pool; 0 if it may. -/
def chk (e : En) : Int :=
  if (decide (e.k < 1) || decide (6 < e.k)) = true then 2
  else if (!(inR e.s 0 63) || (e.k == 6 && e.s != 0)) = true then 11
  else if (e.k == 1 && !(mayB e.a e.p && inR e.w 1 8)) = true then 14
  else if eqE e (its e) = true then 0 else 14
theorem chk_eq (e : En) : chk e = bif (decide (e.k < 1) || decide (6 < e.k)) then 2 else bif (!(inR e.s 0 63) || (e.k == 6 && e.s != 0)) then 11 else bif (e.k == 1 && !(mayB e.a e.p && inR e.w 1 8)) then 14 else (if eqE e (its e) = true then 0 else 14) := by
  unfold chk
  cases (decide (e.k < 1) || decide (6 < e.k)) <;> cases (!(inR e.s 0 63) || (e.k == 6 && e.s != 0)) <;> cases (e.k == 1 && !(mayB e.a e.p && inR e.w 1 8)) <;> rfl
end Go.Proofs.Ytejlfbiehcfbgaa
