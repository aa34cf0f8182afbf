/- Make: what all its texts share. -/
import Derived.Test.YtomlpkojnipkhaaGreatGa
import Derived.Test.YtomlpkojnipkhaaGreatWirMkp
import Derived.Test.YtomlpkojnipkhaaGreatGwd
import Derived.Test.YtomlpkojnipkhaaGreatWirMkx
import Derived.BigQuiet
import Derived.Deep.RegionHeld3
import Derived.Deep.Cut
namespace Go.Proofs.YtomlpkojnipkhaaGreat
set_option linter.unusedVariables false
set_option linter.unusedSimpArgs false
open Go.RowKit Go.ChangeShapes Go.WideShapes Go.ChangeAt

theorem cells_set {f : Nat → Int} {k : Nat} (hk : k < 8) (x : Int) : ((List.range 8).map fun j => Value.int .i64 (f j)).set k (.int .i64 x) = (List.range 8).map fun j => Value.int .i64 (set1 f k x j) := by
  apply List.ext_getElem
  · simp
  · intro i h1 h2
    simp only [List.getElem_set, List.getElem_map, List.getElem_range, set1]
    by_cases e : k = i
    · rw [if_pos e, if_pos e.symm]
    · rw [if_neg e, if_neg (Ne.symm e)]
/-- Of the numbers the first k are read. -/
def nvk (g : Nat → Int) (n k : Nat) : Nat → Int := fun j => if j < k then nv g n j else 0
theorem nvk_step (g : Nat → Int) (n k : Nat) : set1 (nvk g n k) k (nv g n k) = nvk g n (k + 1) := by
  funext j
  unfold set1 nvk
  by_cases e : j = k
  · rw [if_pos e, if_pos (by omega), e]
  · rw [if_neg e]
    by_cases h : j < k
    · rw [if_pos h, if_pos (by omega)]
    · rw [if_neg h, if_neg (by omega)]
theorem nvk_end (g : Nat → Int) (n k : Nat) (h : k = 8 ∨ n ≤ k) (j : Nat) (hj : j < 8) : nvk g n k j = nv g n j := by
  unfold nvk
  split
  · rfl
  · unfold nv; rw [if_neg (by omega)]
theorem nvk_cells (g : Nat → Int) (n k : Nat) (h : k = 8 ∨ n ≤ k) : ((List.range 8).map fun j => Value.int .i64 (nvk g n k j)) = (List.range 8).map fun j => Value.int .i64 (nv g n j) := by
  refine List.map_congr_left fun j hj => ?_
  rw [nvk_end g n k h j (by simpa using hj)]
theorem cut_to_b (A : Option Addr) (n c k : Nat) (hk : k ≤ n) (hn : n ≤ c) (z : Int) (hz : z = k) (W : World) : (Instr.slice 35 (.slice A n c) none (some (.int .i64 z)) none).run Tryz.prog W = .ok (.slice A k c) W := by
  subst hz
  rw [run_slice_h W 35 A n c elem_b .i64 (k : Int) (by omega) (by omega), size_b W]
  have e : Option.map (fun x : Addr => x.add 0) A = A := by cases A <;> simp [Addr.add]
  simp [Result.andThen, sliced, e]
theorem wi3 (k : Int) : 1 + wi k 3 = 1 ∨ 1 + wi k 3 = 2 ∨ 1 + wi k 3 = 3 := by have := wi_bd k 3 (by decide); omega
theorem tmod_pos_ (a n : Int) (h : 0 ≤ a) : a.tmod n = a % n := Int.tmod_eq_emod_of_nonneg h
theorem tdiv_pos_ (a n : Int) (h : 0 ≤ a) : a.tdiv n = a / n := Int.tdiv_eq_ediv_of_nonneg h
end Go.Proofs.YtomlpkojnipkhaaGreat

