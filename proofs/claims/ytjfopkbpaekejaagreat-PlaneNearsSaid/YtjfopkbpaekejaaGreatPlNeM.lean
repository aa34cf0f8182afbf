/- The stamp that came last, pure. -/
import Derived.Test.YtjfopkbpaekejaaGreatGa
import Derived.Test.YtjfopkbpaekejaaGreatTkBy
import Derived.Test.YtjfopkbpaekejaaGreatTopChM
import Derived.Test.YtjfopkbpaekejaaGreatTopRtS
import Derived.Test.YtjfopkbpaekejaaGreatGr
import Derived.Test.YtjfopkbpaekejaaGreatGx
import Derived.Test.YtjfopkbpaekejaaGreatPolUq
import Derived.BigQuiet
import Derived.Deep.RegionHeld3
import Derived.Deep.Cut
import Derived.IntWalk
namespace Go.Proofs.YtjfopkbpaekejaaGreat
set_option linter.unusedVariables false
set_option linter.unusedSimpArgs false
open Go.RowKit Go.ChangeShapes Go.WideShapes Go.ChangeAt
set_option maxRecDepth 100000
def xN (A P v : Int) : Pk := { kind := 1, life := 5, src := A, dst := 4000, fp := P, flags := 2, no := 12, go := mkBO v 1 }
theorem near_out {r : Pl} (ha : r.a = 10) {A P v : Int} (hA : 0 ≤ A ∧ A ≤ 4294967295) (hP : 0 ≤ P ∧ P ≤ 65535) (hv : U32 v) {nr : Nat → Option Int} {s : Nat} (hf : findO r A P = some s) :
    buildE (xN A P v) = 0 ∧ lenP (xN A P v) = 36 ∧ IsB (builtF (xN A P v)) ∧ builtF (xN A P v) 0 = 1 ∧ ∃ F, takeT r true nr (builtF (xN A P v)) 36 = ⟨0, -1, false, 36, F, setN nr s v⟩ := by
  have h1 : U32 1 := ⟨by decide, by decide⟩
  have hM : Mkd (xN A P v) := ⟨.inl rfl, by show (0 : Int) ≤ 0 ∧ (0 : Int) ≤ 65535; decide, by show (0 : Int) ≤ 2 ∧ (2 : Int) ≤ 15; decide, by show (0 : Int) ≤ 0 ∧ (0 : Int) ≤ 65535; decide, ⟨fun h => absurd rfl h, fun _ => ⟨rfl, rfl⟩, rfl⟩, mkB_B hv h1, c0B_, by show 12 ≤ 40; decide, by show 0 ≤ 200; decide⟩
  obtain ⟨hE, hC, _⟩ := kd_E hM (by show (0 : Int) ≤ 5 ∧ (5 : Int) ≤ 255; decide) rfl hA (by show (0 : Int) ≤ 4000 ∧ (4000 : Int) ≤ 4294967295; decide) hP
  have hgo : IsB (xN A P v).go := mkB_B hv h1
  have hgd : IsB (xN A P v).gd := c0B_
  have hg := builtF_B hgd hgo hE
  have hq := built_parseE hgd hgo hE
  have pe := built_parse hgd hgo hE hC
  have hL : lenP (xN A P v) = 36 := rfl
  rw [hL] at hq pe
  have hst : stO (xN A P v) = (4, v, 1, true) := stamp_mk0 hv h1
  refine ⟨hE, hL, hg, x_0 rfl, ?_⟩
  rw [take_out hq pe rfl (by show (1 : Int) < 5; decide) (by show (1 : Int) ≠ 3; decide) (by rw [ha]; intro h; exact absurd h.1 (by show ¬ (4000 : Int) = 10; decide)) hf]
  unfold outT
  dsimp only
  rw [if_neg (by show ¬ (1 : Int) = 2; decide), hst, if_pos rfl]
  exact ⟨_, rfl⟩
theorem rot_ap (p : Pl) (y : Ky) : apR p ⟨6, 0, 0, 0, 0, y⟩ = (⟨p.v + 1, p.a, p.p, p.s, ⟨p.r.e + 1, p.r.c, p.r.n, y⟩⟩, 0) := by
  have hk : chk ⟨6, 0, 0, 0, 0, y⟩ = 0 := by rw [chk_r]; rfl
  have hf : fitB p ⟨6, 0, 0, 0, 0, y⟩ 0 = true := by unfold fitB; rfl
  unfold apR
  rw [if_pos hk]
  simp only [Int.toNat_zero]
  unfold refE
  rw [hf]
  rfl
theorem rapply_fb (p : Pl) (e : En) (hp : PB p) (w : World) : Calls Tryz.prog 22 #[.agg (FA 330 (pc p)), .agg #[.int .i64 e.k, .int .i64 e.s, .int .i64 e.a, .int .i64 e.p, .int .i64 e.w, .int .u64 e.y.a, .int .u64 e.y.b]] w fun x w' => x = .returned (.tuple #[.agg (FA 330 (pc (apR p e).1)), .int .i64 (apR p e).2]) ∧ Below w.heap.size w w' := rapply_any p e hp w
theorem setN_at (nr : Nat → Option Int) (s : Nat) (v : Int) : setN nr s v s = some v := by unfold setN; rw [if_pos rfl]
theorem setN_32 {nr : Nat → Option Int} (h : Nt32 nr) (s : Nat) {v : Int} (hv : U32 v) : Nt32 (setN nr s v) := fun j x e => by
  unfold setN at e
  split at e
  · injection e with e; rw [← e]; exact hv
  · exact h j x e
theorem plf_plc (sb : Nat) (nr : Nat → Option Int) : plf sb nr = plc (some ⟨sb, 0, none⟩) true (nrV nr) := rfl
end Go.Proofs.YtjfopkbpaekejaaGreat
