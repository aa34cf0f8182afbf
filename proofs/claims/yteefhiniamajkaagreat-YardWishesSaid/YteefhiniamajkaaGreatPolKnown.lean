/- The laws' helper known. -/
import Derived.Test.YteefhiniamajkaaGreatGr
import Derived.Test.YteefhiniamajkaaGreatPolNew
import Derived.BigQuiet
import Derived.Deep.RegionHeld3
import Derived.Deep.Cut
namespace Go.Proofs.YteefhiniamajkaaGreat
set_option linter.unusedVariables false
set_option linter.unusedSimpArgs false
open Go.RowKit Go.ChangeShapes Go.WideShapes Go.ChangeAt

def kP0 : Pl := ⟨0, 1, 2, fun _ => zSp, ⟨1, zKy, ⟨1, 0⟩, ⟨2, 0⟩⟩⟩
def kE1 : En := ⟨1, 5, 3, 4, 1, zKy⟩
def kE2 : En := ⟨2, 5, 0, 0, 0, zKy⟩
def kG (j : Nat) : En := if j = 0 then kE1 else kE2
def kQ0 : Pl := ⟨2, 1, 2, setS (setS (fun _ => zSp) 5 ⟨1, 3, 4, 1, 0⟩) 5 ⟨2, 3, 4, 1, 0⟩, ⟨1, zKy, ⟨1, 0⟩, ⟨2, 0⟩⟩⟩
theorem kInv : Pinv kP0 0 := ⟨⟨by decide, by decide⟩, ⟨by decide, by decide⟩, fun i hi => (by show ((0:Int) ≤ 0 ∧ (0:Int) ≤ 0 + 1) ∧ (0:Int) ≤ 0 ∧ (0:Int) ≤ 4; decide)⟩
theorem kInvQ : Pinv kQ0 2 := by
  refine ⟨⟨by decide, by decide⟩, ⟨by decide, by decide⟩, fun i hi => ?_⟩
  unfold kQ0 setS
  simp only
  split
  · decide
  · decide
theorem kA1 : apR kP0 kE1 = (⟨1, 1, 2, setS (fun _ => zSp) 5 ⟨1, 3, 4, 1, 0⟩, ⟨1, zKy, ⟨1, 0⟩, ⟨2, 0⟩⟩⟩, 0) := rfl
theorem kA2 : apR ⟨1, 1, 2, setS (fun _ => zSp) 5 ⟨1, 3, 4, 1, 0⟩, ⟨1, zKy, ⟨1, 0⟩, ⟨2, 0⟩⟩⟩ kE2 = (kQ0, 0) := rfl
theorem kA : apR kQ0 ⟨5, 5, 0, 0, 0, zKy⟩ = (zPl, 12) := rfl
theorem kAll : AllOut kP0 kG 2 kQ0 2 0 := by
  refine ⟨?_, .inl ⟨rfl, rfl⟩⟩
  have h1 : runP kP0 kG 1 = some ⟨1, 1, 2, setS (fun _ => zSp) 5 ⟨1, 3, 4, 1, 0⟩, ⟨1, zKy, ⟨1, 0⟩, ⟨2, 0⟩⟩⟩ := by
    unfold runP runP
    show (if (apR kP0 kE1).2 = 0 then some (apR kP0 kE1).1 else none) = _
    rw [kA1]
    rfl
  show runP kP0 kG (1 + 1) = _
  unfold runP
  rw [h1]
  show (if (apR _ kE2).2 = 0 then some (apR _ kE2).1 else none) = _
  rw [kA2]
  rfl
theorem kF1 : fdV (findO kP0 3 4) = .tuple #[.int .i64 0, .bool false] := by
  have : findO kP0 3 4 = none := find_no (fun j _ => rfl)
  rw [this]
  rfl
theorem kF2 : fdV (findO kQ0 3 4) = .tuple #[.int .i64 5, .bool true] := by
  have : findO kQ0 3 4 = some 5 := find_yes 5 (by omega) (fun j hj => by
    unfold tkS kQ0 setS
    simp only
    rw [if_neg (by omega), if_neg (by omega)]
    rfl) rfl
  rw [this]
  rfl
theorem kSe (w : World) (b : Nat) (hb : w.heap.size = b) : Se (w.alloc (.cells #[.int .i64 1, .int .i64 5, .int .i64 3, .int .i64 4, .int .i64 1, .int .u64 0, .int .u64 0, .int .i64 2, .int .i64 5, .int .i64 0, .int .i64 0, .int .i64 0, .int .u64 0, .int .u64 0] 44)) (some ⟨b, 0, none⟩) 2 kG := by
  have C := Ce.made (w := w) (l := [.int .i64 1, .int .i64 5, .int .i64 3, .int .i64 4, .int .i64 1, .int .u64 0, .int .u64 0, .int .i64 2, .int .i64 5, .int .i64 0, .int .i64 0, .int .i64 0, .int .u64 0, .int .u64 0]) (T := 44) (g := b) hb
  refine Sl.mk C.1 (fun j hj => ?_)
  rw [Nat.zero_add]
  have h14 : j = 0 ∨ j = 1 ∨ j = 2 ∨ j = 3 ∨ j = 4 ∨ j = 5 ∨ j = 6 ∨ j = 7 ∨ j = 8 ∨ j = 9 ∨ j = 10 ∨ j = 11 ∨ j = 12 ∨ j = 13 := by omega
  rcases h14 with rfl | rfl | rfl | rfl | rfl | rfl | rfl | rfl | rfl | rfl | rfl | rfl | rfl | rfl <;> exact C.2.1 _ _ rfl
attribute [local irreducible] PA
end Go.Proofs.YteefhiniamajkaaGreat
