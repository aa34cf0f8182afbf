/- A slot that takes is found. -/
import Derived.Test.YtjfopkbpaekejaaGreatGa
import Derived.Test.YtjfopkbpaekejaaGreatTopPk
import Derived.BigQuiet
import Derived.Deep.RegionHeld3
import Derived.Deep.Cut
import Derived.IntWalk
namespace Go.Proofs.YtjfopkbpaekejaaGreat
set_option linter.unusedVariables false
set_option linter.unusedSimpArgs false
open Go.RowKit Go.ChangeShapes Go.WideShapes Go.ChangeAt
theorem c0B_ : IsB (fun _ => (0 : Int)) := fun _ => ⟨(by decide : (0 : Int) ≤ 0), (by decide : (0 : Int) ≤ 255)⟩
theorem find_some {p : Pl} {s : Nat} (hs : s < 64) (ht : takesB (p.s s).st = true) : ∃ k, findO p (p.s s).ad (p.s s).po = some k ∧ k < 64 ∧ takesB (p.s k).st = true ∧ (p.s k).ad = (p.s s).ad ∧ (p.s k).po = (p.s s).po := by
  have hm : tkS p (p.s s).ad (p.s s).po s = true := by unfold tkS; rw [ht]; simp
  cases hf : findO p (p.s s).ad (p.s s).po with
  | none =>
    unfold findO at hf
    have := List.find?_eq_none.1 hf s (by simp; omega)
    rw [hm] at this
    exact absurd rfl this
  | some k =>
    have h1 := find_lt hf
    unfold findO at hf
    have h2 := List.find?_some hf
    unfold tkS at h2
    simp at h2
    refine ⟨k, rfl, h1, ?_, ?_, ?_⟩ <;> (first | exact h2.1 | exact h2.1.1 | exact h2.1.2 | exact h2.2.1 | exact h2.2.2 | exact h2.2)
theorem x_B {x : Pk} (hgd : IsB x.gd) (hgo : IsB x.go) (hE : buildE x = 0) : IsB (builtF x) := builtF_B hgd hgo hE
theorem x_0 {x : Pk} (h : x.kind = 1) : builtF x 0 = 1 := by rw [built_hd (by omega), raw_0, h]
end Go.Proofs.YtjfopkbpaekejaaGreat

