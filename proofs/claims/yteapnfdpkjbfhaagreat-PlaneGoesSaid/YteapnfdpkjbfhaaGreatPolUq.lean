/- No two slots stand at one place. -/
import Derived.Test.YteapnfdpkjbfhaaGreatGa
import Derived.Test.YteapnfdpkjbfhaaGreatGt
import Derived.Test.YteapnfdpkjbfhaaGreatGf
import Derived.BigQuiet
namespace Go.Proofs.YteapnfdpkjbfhaaGreat
set_option linter.unusedVariables false
set_option linter.unusedSimpArgs false
open Go.RowKit Go.ChangeShapes Go.WideShapes Go.ChangeAt
def Uq (p : Pl) : Prop := ∀ i j : Nat, i < 64 → j < 64 → (p.s i).st ≠ 0 → (p.s j).st ≠ 0 → (p.s i).ad = (p.s j).ad → (p.s i).po = (p.s j).po → i = j
theorem Uq.put {p : Pl} (h : Uq p) {n : Nat} {c : Sp} (hc : c.st ≠ 0 → ∀ j, j < 64 → j ≠ n → (p.s j).st ≠ 0 → c.ad = (p.s j).ad → c.po = (p.s j).po → False) (v a q : Int) (r : Rg) : Uq ⟨v, a, q, setS p.s n c, r⟩ := by
 intro i j hi hj
 unfold setS
 simp only
 by_cases e : i = n
 ·by_cases e' : j = n
  ·intro _ _ _ _; omega
  ·rw [if_pos e, if_neg e']
   intro h1 h2 h3 h4
   exact (hc h1 j hj e' h2 h3 h4).elim
 ·by_cases e' : j = n
  ·rw [if_neg e, if_pos e']
   intro h1 h2 h3 h4
   exact (hc h2 i hi e h1 h3.symm h4.symm).elim
  ·rw [if_neg e, if_neg e']
   exact h i j hi hj
theorem Uq.step {p : Pl} (h : Uq p) {e : En} (h0 : (apR p e).2 = 0) : Uq (apR p e).1 := by
 obtain ⟨hc, hr, h1⟩ := apR_ok h0
 obtain ⟨k1, k2, s0, s1, _⟩ := chk_ok hc
 rw [h1]
 have n64 : e.s.toNat < 64 := by omega
 have hf : fitB p e e.s.toNat = true := by
  unfold refE at hr
  cases hb : fitB p e e.s.toNat
  ·rw [hb] at hr; exact absurd hr (by simp)
  ·rfl
 unfold nxP
 have hk : e.k = 1 ∨ e.k = 2 ∨ e.k = 3 ∨ e.k = 4 ∨ e.k = 5 ∨ e.k = 6 := by omega
 unfold fitB at hf
 have hn : e.s.toNat = e.s.toNat := rfl
 rcases hk with k | k | k | k | k | k
 all_goals (rw [k] at hf ⊢; simp only [Int.reduceBEq, cond_true, cond_false, Bool.or_true, Bool.or_false] at hf ⊢)
 all_goals first
  | exact h
  | refine h.put (fun hs j hj hne hst h3 h4 => ?_) _ _ _ _
 all_goals (unfold chS at hs h3 h4; rw [k] at hs h3 h4; simp only [Int.reduceBEq, cond_true, cond_false] at hs h3 h4)
 ·simp only [Bool.and_eq_true, Bool.not_eq_true'] at hf
  have h5 := hf.2
  unfold heldB at h5
  simp only [Bool.or_eq_false_iff] at h5
  have h6 := List.any_eq_false.1 h5.2 j (by simpa using hj)
  refine h6 ?_
  unfold atS
  simp only [Bool.and_eq_true, bne_iff_ne, beq_iff_eq]
  exact ⟨⟨hst, h3.symm⟩, h4.symm⟩
 ·simp only [Bool.or_eq_true, beq_iff_eq] at hf
  exact hne (h j e.s.toNat hj n64 hst (by omega) h3.symm h4.symm)
 ·simp only [beq_iff_eq] at hf
  exact hne (h j e.s.toNat hj n64 hst (by omega) h3.symm h4.symm)
 ·simp only [Bool.or_eq_true, beq_iff_eq] at hf
  exact hne (h j e.s.toNat hj n64 hst (by omega) h3.symm h4.symm)
 ·exact hs rfl
end Go.Proofs.YteapnfdpkjbfhaaGreat
