/- Rings of keys of the program; the next ring; the laws' helper Ring. -/
import Derived.Test.YtljgcffpijjliaaDoorRing1
namespace Go.Proofs.YtljgcffpijjliaaDoor
set_option linter.unusedVariables false
set_option linter.unusedSimpArgs false
open Go.RowKit Go.ChangeShapes Go.WideShapes Go.ChangeAt

theorem run_copy_none2 {P : Program} (w : World) (dT sT ty elem : TypeId) (d a : Option Addr) (dLen dCap sLen sCap : Nat) (hu : P.underlying dT = some (.slice elem)) (hs : (P.info? elem).map (·.size) = some 2) (hn : Nat.min sLen dLen = 0) :
    (Builtin.copy_ #[dT, sT] ty #[.slice d dLen dCap, .slice a sLen sCap]).run P w = .ok (goInt 0) w := by
  cases hq : P.info? elem with
  | none => simp [hq] at hs
  | some i =>
    have hl : ∀ (x : Addr), (loadCells x 0).run P w = .ok #[] w := fun x => by simpa using run_loadCells_list (P := P) w x [] (by simp)
    cases d <;> cases a <;> simp [Builtin.copy_, run_underlying hu, Builtin.lenOf, Builtin.firstCells, sizeOf, typeInfo, hq, hn, storeCells, hl]
theorem Ce.slu {w : World} {b : Nat} (l : List Int) (h : Ce w b (l.map (Value.int .u64))) : Sl w (some ⟨b, 0, none⟩) l.length (fun j => .int .u64 (l.getD j 0)) := by
  refine Sl.mk h.1 fun j hj => ?_
  rw [Nat.zero_add]
  exact h.2.1 j _ (by simp [List.getD, hj])
theorem keeps_setCells (b : Nat) : ∀ (vs : List Value) (o : Nat) (w : World) (B : Nat), B ≤ b → Below B w (w.setCells b o vs)
  | [], _, w, B, _ => Below.refl B w
  | v :: r, o, w, B, h => ((Below.refl B w).setCell h v).trans (keeps_setCells b r (o + 1) _ B h)
end Go.Proofs.YtljgcffpijjliaaDoor
