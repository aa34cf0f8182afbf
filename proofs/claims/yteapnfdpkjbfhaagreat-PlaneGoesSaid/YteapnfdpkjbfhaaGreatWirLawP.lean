/- Plain lemmas for the laws of packets. -/
import Derived.Test.YteapnfdpkjbfhaaGreatGa
import Derived.Test.YteapnfdpkjbfhaaGreatGwb
import Derived.Test.YteapnfdpkjbfhaaGreatGwc
import Derived.BigQuiet
import Derived.Deep.RegionHeld3
import Derived.Deep.Cut
namespace Go.Proofs.YteapnfdpkjbfhaaGreat
set_option linter.unusedVariables false
set_option linter.unusedSimpArgs false
open Go.RowKit Go.ChangeShapes Go.WideShapes Go.ChangeAt
theorem wr_in {g : Nat → Int} {L a m : Nat} {v : Int} {j : Nat} (h : a ≤ j) (ha : 24 ≤ a) : wrF g L a m v j = putF g a m v j := by
 have hA := (sumA_even (g 0)).choose_spec
 unfold wrF
 split
 ·rfl
 ·have e0 : tbody (sumA (g 0)) L g ((m + a % 2 + 1) / 2) (a - a % 2) (putF g a m v) 0 = g 0 := by rw [tbody_out (by omega), putF_out (by omega)]
  by_cases k2 : g 0 = 2
  ·rw [fillF_out (by omega), tbody_out (by omega)]
  ·rw [fillF_3 (by rw [e0]; exact k2), tbody_out (by omega)]
theorem age_yes {g : Nat → Int} {L : Nat} (hp : parseE g L = 0) (h : 1 < g 1) : ageE g L = 0 := by
 unfold ageE; rw [if_neg (by rw [hp]; simp), if_neg (by omega)]
theorem nat_yes {g : Nat → Int} {L : Nat} {ad po : Int} (hp : parseE g L = 0) (h3 : g 0 ≠ 3) (h1 : 0 ≤ ad ∧ ad ≤ 4294967295) (h2 : 0 ≤ po ∧ po ≤ 65535) : natE g L ad po = 0 := by
 unfold natE inR
 rw [if_neg (by rw [hp]; simp), if_neg h3, if_pos (by simp; omega)]
theorem pe_trans {p q r : Pk} (h : Pe p q) (k : Pe q r) : Pe p r :=
 ⟨h.kind.trans k.kind, h.life.trans k.life, h.piece.trans k.piece, h.src.trans k.src, h.dst.trans k.dst, h.fp.trans k.fp, h.tp.trans k.tp, h.flags.trans k.flags, h.label.trans k.label, h.bare.trans k.bare, h.code.trans k.code, h.no.trans k.no,
  fun j hj => (h.go j hj).trans (k.go j (by rw [← h.no]; exact hj)), h.nd.trans k.nd, fun j hj => (h.gd j hj).trans (k.gd j (by rw [← h.nd]; exact hj))⟩
theorem pe_src {p q : Pk} (h : Pe p q) (a b : Int) : Pe { p with src := a, fp := b } { q with src := a, fp := b } :=
 ⟨h.kind, h.life, h.piece, rfl, h.dst, rfl, h.tp, h.flags, h.label, h.bare, h.code, h.no, h.go, h.nd, h.gd⟩
theorem pe_dst {p q : Pk} (h : Pe p q) (a b : Int) : Pe { p with dst := a, tp := b } { q with dst := a, tp := b } :=
 ⟨h.kind, h.life, h.piece, h.src, rfl, h.fp, rfl, h.flags, h.label, h.bare, h.code, h.no, h.go, h.nd, h.gd⟩
def moved (p : Pk) (s : Bool) (a b : Int) : Pk := if s = true then { p with src := a, fp := b } else { p with dst := a, tp := b }
theorem pe_moved {p q : Pk} (h : Pe p q) (s : Bool) (a b : Int) : Pe (moved p s a b) (moved q s a b) := by
 cases s
 ·exact pe_dst h a b
 ·exact pe_src h a b
theorem nat_pe {g : Nat → Int} {L : Nat} {p : Pk} {s : Bool} {ad po : Int} (hg : IsB g) (hp : Pe (parseR g L) p) (h : natE g L ad po = 0) : Pe (parseR (natF g L s ad po) L) (moved p s ad po) :=
 pe_trans (nat_read hg h) (pe_moved hp s ad po)
theorem pe_kind {g : Nat → Int} {L : Nat} {p : Pk} (hP : parseE g L = 0) (h : Pe (parseR g L) p) : g 0 = p.kind := (parse_life hP).2.symm.trans h.kind
theorem pe_life {g : Nat → Int} {L : Nat} {p : Pk} (hP : parseE g L = 0) (h : Pe (parseR g L) p) : g 1 = p.life := (parse_life hP).1.symm.trans h.life
end Go.Proofs.YteapnfdpkjbfhaaGreat
