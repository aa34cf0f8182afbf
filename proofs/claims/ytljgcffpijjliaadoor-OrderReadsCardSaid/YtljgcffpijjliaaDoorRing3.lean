/- The next ring; the laws' helpers Ring, kind. -/
import Derived.Test.YtljgcffpijjliaaDoorRing2
namespace Go.Proofs.YtljgcffpijjliaaDoor
set_option linter.unusedVariables false
set_option linter.unusedSimpArgs false
open Go.RowKit Go.ChangeShapes Go.WideShapes Go.ChangeAt
theorem rnext_any (r : Rg) (k : Ky) (hr : Ep r.e) (w : World) :
    Calls Tryd.prog 58 #[rgV r, kyV k] w fun e' w' => e' = .returned (rgV ⟨r.e + 1, r.c, r.n, k⟩) ∧ Below w.heap.size w w' := by
  obtain ⟨hr1, hr2⟩ := hr
  have q2 : IntKind.i64.wrap (r.e + 1) = r.e + 1 := IntWalk.i64_in _ (by omega)
  unfold rgV kyV
  go_enter Tryd.func58, Tryd.ntmps58
  go_wp2_with fail
  refine bodyPost_ret (by simp [results, Tryd.results58, go_sem]) rfl ⟨rfl, ?_⟩
  repeat' (first | with_reducible exact Below.refl _ _ | with_reducible refine Below.drew ?_ | with_reducible refine Below.alloc ?_ ?_ _ | with_reducible refine Below.setCell ?_ ?_ _ | (simp; done) | (simp; omega))

end Go.Proofs.YtljgcffpijjliaaDoor
