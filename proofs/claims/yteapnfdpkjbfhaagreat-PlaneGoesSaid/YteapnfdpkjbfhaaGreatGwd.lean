/- May a packet be built? A packet's body. Build. -/
import Derived.Test.YteapnfdpkjbfhaaGreatGa
import Derived.Test.YteapnfdpkjbfhaaGreatGwc
import Derived.BigQuiet
import Derived.Deep.RegionHeld3
import Derived.Deep.Cut
namespace Go.Proofs.YteapnfdpkjbfhaaGreat
set_option linter.unusedVariables false
set_option linter.unusedSimpArgs false
open Go.RowKit Go.ChangeShapes Go.WideShapes Go.ChangeAt
end Go.Proofs.YteapnfdpkjbfhaaGreat
namespace Go.Proofs.YteapnfdpkjbfhaaGreat
set_option linter.unusedVariables false
set_option linter.unusedSimpArgs false
open Go.RowKit Go.ChangeShapes Go.WideShapes Go.ChangeAt
theorem range_facts {p : Pk} (h : rangeB p = true) : (0 ≤ p.life ∧ p.life ≤ 255) ∧ (0 ≤ p.piece ∧ p.piece ≤ 255) ∧ (p.kind = 3 → 0 ≤ p.code ∧ p.code ≤ 255) ∧ (p.kind ≠ 3 → p.kind ≠ 2 → 0 ≤ p.flags ∧ p.flags ≤ 15) := by
 unfold rangeB inR at h
 simp at h
 refine ⟨by omega, by omega, fun k => ?_, fun k k2 => ?_⟩
 ·rw [if_pos k] at h; omega
 ·rw [if_neg k, if_neg k2] at h; omega
theorem ow_base {w : World} {B n size : Nat} {e : TypeId} {v : Value} {f : Nat → Value} (h : Ow w B e size v n f) (hn : 0 < n * size) : B ≤ w.heap.size := by
 rcases h.2 with ⟨_, h0⟩ | ⟨g, cap, cur, _, hB, hh, _⟩
 ·subst h0; simp at hn
 ·rcases Nat.lt_or_ge g w.heap.size with h1 | h1
  ·omega
  ·rw [Array.getElem?_eq_none h1] at hh; cases hh
end Go.Proofs.YteapnfdpkjbfhaaGreat
namespace Go.Proofs.YteapnfdpkjbfhaaGreat
set_option linter.unusedVariables false
set_option linter.unusedSimpArgs false
open Go.RowKit Go.ChangeShapes Go.WideShapes Go.ChangeAt
theorem Ce.below_ {w w' : World} {B b : Nat} {l : List Value} (h : Ce w b l) (hb : Below B w w') (hB : b < B) : Ce w' b l :=
 ⟨Nat.lt_of_lt_of_le h.1 hb.size, fun j v hj => (hb.cell (p := ⟨b, j, none⟩) hB).trans (h.2.1 j v hj), fun j => (World.frozen?_of_block (a := ⟨b, j, none⟩) (hb.block b hB)).trans (h.2.2 j)⟩
end Go.Proofs.YteapnfdpkjbfhaaGreat
