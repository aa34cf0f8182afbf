/- What goes on through a unit is whole where it was. -/
import Derived.Test.YteapnfdpkjbfhaaGreatGa
import Derived.Test.YteapnfdpkjbfhaaGreatTopPk
import Derived.Test.YteapnfdpkjbfhaaGreatGz
import Derived.BigQuiet
import Derived.Deep.RegionHeld3
import Derived.Deep.Cut
import Derived.IntWalk
namespace Go.Proofs.YteapnfdpkjbfhaaGreat
set_option linter.unusedVariables false
set_option linter.unusedSimpArgs false
open Go.RowKit Go.ChangeShapes Go.WideShapes Go.ChangeAt
/-- A gram's label written over. -/
theorem wr_lab {g : Nat → Int} {L : Nat} {v : Int} (hg : IsB g) (hp : parseE g L = 0) (h2 : g 0 = 2) (hv : 0 ≤ v ∧ v ≤ 65535) : parseE (wrF g L 20 2 v) L = 0 ∧ wholeB (wrF g L 20 2 v) L = wholeB g L ∧ Pe (parseR (wrF g L 20 2 v) L) { parseR g L with label := v } := by
 have hs : sumA (g 0) = 22 := by rw [h2]; decide
 have o : ∀ j, j < 20 ∨ 24 ≤ j → wrF g L 20 2 v j = g j := fun j a => wr_out (by omega) (by omega) (by omega)
 have hi : ∀ j, 20 ≤ j → j < 22 → wrF g L 20 2 v j = by8 v (21 - j) := fun j a b => by
  unfold wrF
  split
  ·rw [putF_in a b]
  ·rw [fillF_out (by omega), tbody_out (by omega), putF_in a b]
 have e0 : wrF g L 20 2 v 0 = g 0 := o 0 (by omega)
 have hb := wr_bare (L := L) (v := v) (show 16 ≤ 20 by omega) (show 20 + 2 ≤ sumA (g 0) ∨ sumA (g 0) + 2 ≤ 20 by omega)
 obtain ⟨f1, f2, f3, _⟩ := parse_facts hp
 obtain ⟨a1, a2⟩ := parseE_0 hp
 have q : parseE (wrF g L 20 2 v) L = 0 := by
  unfold parseE
  rw [headE_ext (g := g) (fun j hj => o j (by omega)), if_pos a1]
  unfold bodyE at a2 ⊢
  rw [e0, h2, if_neg (by decide), if_neg (by omega), if_neg (fun h => absurd h.1 (by decide))]
 refine ⟨q, wholeB_of hg (wr_B hg _ _ _ _) e0 f3 f1 q hp hb (fun h => wr_sum hg f1 f2 (by omega) (by omega) (by omega) (by omega) h), ?_⟩
 have nm : ∀ a m, a + m ≤ 20 → num (wrF g L 20 2 v) a m = num g a m := fun a m h => num_ext fun j a b => o j (by omega)
 have nl : num (wrF g L 20 2 v) 20 2 = v := num_by2 (hi 20 (by omega) (by omega)) (hi 21 (by omega) (by omega)) hv.1 hv.2
 have hbare : (num (wrF g L 20 2 v) 22 2 == 0) = (num g 22 2 == 0) := by
  unfold bareF at hb
  rw [e0, h2] at hb
  simpa using hb
 unfold parseR
 rw [if_pos q, if_pos hp]
 unfold parseP
 rw [e0, h2, if_neg (by decide), if_pos rfl, if_neg (by decide), if_pos rfl, o 1 (by omega), o 12 (by omega), nm 4 4 (by omega), nm 8 4 (by omega), nm 16 2 (by omega), nm 18 2 (by omega), nl, hbare]
 exact ⟨rfl, rfl, rfl, rfl, rfl, rfl, rfl, rfl, rfl, rfl, rfl, rfl, fun _ _ => rfl, rfl, fun j _ => o _ (by omega)⟩
theorem pe_lab {x y : Pk} (h : Pe x y) (v : Int) : Pe { x with label := v } { y with label := v } :=
 ⟨h.kind, h.life, h.piece, h.src, h.dst, h.fp, h.tp, h.flags, rfl, h.bare, h.code, h.no, h.go, h.nd, h.gd⟩
end Go.Proofs.YteapnfdpkjbfhaaGreat
