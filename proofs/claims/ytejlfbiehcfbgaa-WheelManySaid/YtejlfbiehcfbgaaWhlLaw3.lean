/- The least slot's place. -/
import Derived.Test.YtejlfbiehcfbgaaWhlLaw2
import Derived.BigQuiet
import Derived.Deep.RegionHeld3
import Derived.Deep.Cut
namespace Go.Proofs.Ytejlfbiehcfbgaa
set_option linter.unusedVariables false
set_option linter.unusedSimpArgs false
open Go.RowKit Go.ChangeShapes Go.WideShapes Go.ChangeAt

theorem at_nat (p : Pl) (i : Nat) : sumW 0 0 (fun j => [1, (p.s i).ad, (p.s i).po].getD j 0) 3 % 127 = ((atP p i : Nat) : Int) ∧ atP p i < 127 := by
  have h := cAt_bd (p.s i).ad (p.s i).po
  have h2 : cAt (p.s i).ad (p.s i).po = sumW 0 0 (fun j => [1, (p.s i).ad, (p.s i).po].getD j 0) 3 % 127 := rfl
  refine ⟨?_, at_bd p i⟩
  rw [← h2]
  unfold atP
  generalize cAt (p.s i).ad (p.s i).po = x at *
  omega
/-- The least slot that takes turns has the first place that it wants. -/
theorem first_place {p : Pl} {i : Nat} (hi : i < 64) (hst : (p.s i).st = 2) (hp : Pw p) (hno : ∀ j, j < i → (p.s j).st ≠ 2) : whlW p (atP p i) = i := by
  have hw : 0 < wtP p i := by
    have := (hp i hi).2.2 (by rw [hst]; decide)
    unfold wtP
    rw [if_pos hst]
    omega
  have h0 : offW (wtP p) i = 0 := zero_off (fun j hj => by unfold wtP; rw [if_neg (hno j hj)])
  have hT : 0 < offW (wtP p) 64 := by
    have h1 : offW (wtP p) (i + 1) = offW (wtP p) i + wtP p i := rfl
    have := off_mono (wtP p) (show i + 1 ≤ 64 by omega)
    omega
  have hs : slW (wtP p) (0 % offW (wtP p) 64) = i := by
    rw [Nat.zero_mod]
    have := sl_eq (wt := wtP p) hi hw
    rw [h0] at this
    exact this
  have hpos : posW (atP p i) (byP p i) 0 = atP p i := by unfold posW; rw [Nat.zero_mul, Nat.add_zero]; exact Nat.mod_eq_of_lt (at_bd p i)
  have hff : ffW (wkW (wtP p) (atP p) (byP p) 0) (atP p i) (byP p i) = 0 := ff_eq (by omega) rfl (fun j hj => absurd hj (by omega))
  have h1 : wkW (wtP p) (atP p) (byP p) 1 (atP p i) = i := by
    show putW _ _ _ _ = _
    rw [hs, hff, hpos]
    exact putW_same _ _ _
  have h2 := wk_keep (at_ := atP p) hT (by_of p) h1 (by omega) 126 (by omega)
  unfold whlW
  rw [if_neg (by omega)]
  exact h2
end Go.Proofs.Ytejlfbiehcfbgaa
