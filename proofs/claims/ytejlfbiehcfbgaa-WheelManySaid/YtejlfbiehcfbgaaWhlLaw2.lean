/- More that the laws share. -/
import Derived.Test.YtejlfbiehcfbgaaWhlLaw
import Derived.BigQuiet
import Derived.Deep.RegionHeld3
import Derived.Deep.Cut
namespace Go.Proofs.Ytejlfbiehcfbgaa
set_option linter.unusedVariables false
set_option linter.unusedSimpArgs false
open Go.RowKit Go.ChangeShapes Go.WideShapes Go.ChangeAt

theorem inR_c {c : Nat} (h : c < 64) : inR (c : Int) 0 63 = true := by unfold inR; simp; omega
theorem drain_ok {p : Pl} {c : Nat} (hc : c < 64) (h : (p.s c).st = 2) : apR p ⟨3, (c : Int), 0, 0, 0, zKy⟩ = (nxP p ⟨3, (c : Int), 0, 0, 0, zKy⟩, 0) := by
  have hk : chk ⟨3, (c : Int), 0, 0, 0, zKy⟩ = 0 := by rw [chk_r]; simp only [inR_c hc]; rfl
  have hf : fitB p ⟨3, (c : Int), 0, 0, 0, zKy⟩ c = true := by
    unfold fitB
    simp only [h]
    rfl
  unfold apR
  rw [if_pos hk]
  simp only [Int.toNat_natCast]
  unfold refE
  rw [hf]
  rfl
theorem drain_st (p : Pl) (c : Nat) : ((nxP p ⟨3, (c : Int), 0, 0, 0, zKy⟩).s c).st = 3 := by
  unfold nxP setS chS
  simp
theorem shut_ok {p : Pl} {c : Nat} (hc : c < 64) (h : (p.s c).st = 1 ∨ (p.s c).st = 3) : apR p ⟨4, (c : Int), 0, 0, 0, zKy⟩ = (nxP p ⟨4, (c : Int), 0, 0, 0, zKy⟩, 0) := by
  have hk : chk ⟨4, (c : Int), 0, 0, 0, zKy⟩ = 0 := by rw [chk_r]; simp only [inR_c hc]; rfl
  have hf : fitB p ⟨4, (c : Int), 0, 0, 0, zKy⟩ c = true := by
    unfold fitB
    rcases h with h | h <;> simp only [h] <;> rfl
  unfold apR
  rw [if_pos hk]
  simp only [Int.toNat_natCast]
  unfold refE
  rw [hf]
  rfl
theorem whl_not {p : Pl} {c : Nat} (h : (p.s c).st ≠ 2) : cnW (whlW p) (c : Int) 127 = 0 := by
  refine cn_no _ _ (fun j hj => ?_)
  rcases whl_val (p := p) hj with ⟨_, e⟩ | ⟨_, i, _, h2, e⟩
  · rw [e]; omega
  · rw [e]
    intro e2
    have : i = c := by omega
    subst this
    exact h h2
end Go.Proofs.Ytejlfbiehcfbgaa
