/- Packets told by their fields, and what a unit tells of them. -/
import Derived.Test.YteapnfdpkjbfhaaGreatGa
import Derived.Test.YteapnfdpkjbfhaaGreatGz
import Derived.Test.YteapnfdpkjbfhaaGreatWirLawP
import Derived.Test.YteapnfdpkjbfhaaGreatOptKp
import Derived.Test.YteapnfdpkjbfhaaGreatPolMake
import Derived.Test.YteapnfdpkjbfhaaGreatGx
import Derived.BigQuiet
import Derived.Deep.RegionHeld3
import Derived.Deep.Cut
import Derived.IntWalk
namespace Go.Proofs.YteapnfdpkjbfhaaGreat
set_option linter.unusedVariables false
set_option linter.unusedSimpArgs false
open Go.RowKit Go.ChangeShapes Go.WideShapes Go.ChangeAt
/-- The tops' pools. -/
theorem mkP_ap (g : Nat → Int) : ∀ k : Nat, (mkP g k).a = 10 ∧ (mkP g k).p = 80
 | 0 => ⟨rfl, rfl⟩
 | k + 1 => by
   have ih := mkP_ap g k
   unfold mkP
   split
   ·rename_i h
    rw [(apR_ok h).2.2]
    unfold nxP
    cases (enN (g k)).k == 6
    ·exact ih
    ·exact ih
   ·exact ih
theorem mkP_pt (g : Nat → Int) (k : Nat) (hk : k ≤ 1000) : Pt (mkP g k) := by
 have hi := mkP_inv g k
 have ha := mkP_ap g k
 refine ⟨mk_pw g k, ⟨by have := hi.2.1; omega, by have := hi.2.1; omega⟩, hi.st, ?_, ?_⟩
 ·rw [ha.1]; decide
 ·rw [ha.2]; decide
theorem stO_pe {x y : Pk} (h : Pe x y) : stO x = stO y := by
 unfold stO
 rw [h.no]
 exact stamp_ext fun j hj => h.go j (by rw [h.no]; exact hj)
theorem inT_pe {p : Pl} {nr : Nat → Option Int} {g : Nat → Int} {n : Nat} {x y : Pk} (h : Pe x y) : inT p nr g n x = inT p nr g n y := by
 unfold inT inG slT byT carT
 rw [h.kind, h.src, h.fp, h.label, h.flags, stO_pe h]
/-- What a client sends comes in. -/
theorem take_in {p : Pl} {nr : Nat → Option Int} {g : Nat → Int} {n : Nat} {x : Pk} (hp : parseE g n = 0) (pe : Pe (parseR g n) x) (h0 : x.piece = 0) (h1 : 1 < x.life) (hk : x.kind ≠ 3) (hd : x.dst = p.a ∧ x.tp = p.p) : takeT p true nr g n = inT p nr g n x := by
 unfold takeT
 dsimp only
 rw [if_neg (by simp), hp, if_neg (by simp), pe.piece, if_neg (by simp [h0]), pe.life, if_neg (by omega), pe.dst, pe.kind, pe.tp, if_neg (fun h => hk h.2), if_pos hd]
 exact inT_pe pe
end Go.Proofs.YteapnfdpkjbfhaaGreat
