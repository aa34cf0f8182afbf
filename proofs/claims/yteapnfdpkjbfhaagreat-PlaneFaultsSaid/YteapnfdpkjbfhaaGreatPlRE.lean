/- A fault's head anew, pure. -/
import Derived.Test.YteapnfdpkjbfhaaGreatGa
import Derived.Test.YteapnfdpkjbfhaaGreatGz
import Derived.BigQuiet
import Derived.Deep.RegionHeld3
import Derived.Deep.Cut
import Derived.IntWalk
namespace Go.Proofs.YteapnfdpkjbfhaaGreat
set_option linter.unusedVariables false
set_option linter.unusedSimpArgs false
open Go.RowKit Go.ChangeShapes Go.WideShapes Go.ChangeAt
set_option maxRecDepth 100000
theorem rea_E {g : Nat → Int} {n : Nat} (hg : IsB g) (hp : parseE g n = 0) (h3 : g 0 = 3) {a : Int} (ha : 0 ≤ a ∧ a ≤ 4294967295) : buildE { parseR g n with dst := a } = 0 ∧ lenP { parseR g n with dst := a } = n := by
 have ln := rd_len hg hp
 obtain ⟨l1, l2, l3, l4, _, _, _, _, l9⟩ := ln
 obtain ⟨m1, m2, _⟩ := l9 h3
 have hx : parseR g n = { kind := g 0, life := g 1, piece := g 12, src := num g 4 4, dst := num g 8 4, code := g 16, nd := n - 20, gd := fun j => g (20 + j) } := by
  unfold parseR parseP
  rw [if_pos hp, if_pos h3]
 have hL : lenP { parseR g n with dst := a } = n := by
  unfold lenP
  rw [if_pos (show ({ parseR g n with dst := a } : Pk).kind = 3 from l3.trans h3)]
  show 20 + (parseR g n).nd = n
  omega
 refine ⟨?_, hL⟩
 have b4 := num_bd hg 4 4
 rw [show (256 : Int) ^ 4 = 4294967296 by decide] at b4
 have g1 := hg 1
 have g12 := hg 12
 have g16 := hg 16
 unfold buildE
 rw [hL]
 rw [hx]
 dsimp only
 rw [if_neg (by unfold isK; rw [h3]; decide), if_neg, if_neg (by omega), if_neg (by omega)]
 unfold rangeB
 dsimp only
 rw [if_pos h3]
 unfold inR
 simp
 omega
end Go.Proofs.YteapnfdpkjbfhaaGreat
