/- Bytes and numbers. -/
import Derived.Test.YtjljaecjnpmdoaaSumMath
import Derived.Test.YtjljaecjnpmdoaaBytes
import Derived.Test.YtjljaecjnpmdoaaZeros
import Derived.BigQuiet
import Derived.Deep.RegionHeld3
import Derived.Deep.Cut
namespace Go.Proofs.Ytjljaecjnpmdoaa
set_option linter.unusedVariables false
set_option linter.unusedSimpArgs false
open Go.RowKit Go.ChangeShapes Go.WideShapes Go.ChangeAt

/-- The k-th byte of a number, from the lowest. -/
def by8 (v : Int) (k : Nat) : Int := v / 256 ^ k % 256
theorem by8_bd (v : Int) (k : Nat) : 0 ≤ by8 v k ∧ by8 v k ≤ 255 := by unfold by8; omega
/-- m bytes of a number laid over a row from off on. -/
def putF (g : Nat → Int) (off m : Nat) (v : Int) : Nat → Int := fun j => if off ≤ j ∧ j < off + m then by8 v (off + m - 1 - j) else g j
theorem div_step (v : Int) (m q : Nat) (h : q < m) : v / 256 ^ (m - (q + 1)) / 256 = v / 256 ^ (m - q) := by
  rw [show m - q = m - (q + 1) + 1 from by omega, Int.pow_succ, Int.ediv_ediv_of_nonneg (Int.pow_nonneg (by decide))]
/-- The same, the lowest m - r bytes alone. -/
def putR (g : Nat → Int) (off m r : Nat) (v : Int) : Nat → Int := fun j => if off + r ≤ j ∧ j < off + m then by8 v (off + m - 1 - j) else g j
theorem putR_0 (g : Nat → Int) (off m : Nat) (v : Int) : putR g off m 0 v = putF g off m v := rfl
theorem putR_m (g : Nat → Int) (off m : Nat) (v : Int) : putR g off m m v = g := by
  funext j; unfold putR; rw [if_neg (by omega)]
theorem putR_step (g : Nat → Int) (off m r : Nat) (v : Int) (h : r < m) : set1 (putR g off m (r + 1) v) (off + r) (by8 v (m - 1 - r)) = putR g off m r v := by
  funext j
  unfold set1 putR
  by_cases e : j = off + r
  · subst e
    rw [if_pos rfl, if_pos (by omega), show off + m - 1 - (off + r) = m - 1 - r from by omega]
  · rw [if_neg e]
    by_cases h2 : off + (r + 1) ≤ j ∧ j < off + m
    · rw [if_pos h2, if_pos (by omega)]
    · rw [if_neg h2, if_neg (by omega)]
theorem putF_B {g : Nat → Int} (hg : IsB g) (off m : Nat) (v : Int) : IsB (putF g off m v) := by
  intro j; unfold putF; split
  · exact by8_bd _ _
  · exact hg j
/-- Bytes as a number, the highest first. -/
def num (g : Nat → Int) (at_ : Nat) : Nat → Int
  | 0 => 0
  | n + 1 => num g at_ n * 256 + g (at_ + n)
theorem num_bd {g : Nat → Int} (hg : IsB g) (a n : Nat) : 0 ≤ num g a n ∧ num g a n < 256 ^ n := by
  induction n with
  | zero => exact ⟨Int.le_refl _, by show (0 : Int) < 1; decide⟩
  | succ n ih =>
    have := hg (a + n)
    unfold num
    rw [Int.pow_succ]
    omega
theorem num_shift (g : Nat → Int) (a b n : Nat) : num (fun j => g (a + j)) b n = num g (a + b) n := by
  induction n with
  | zero => rfl
  | succ n ih => unfold num; rw [ih, Nat.add_assoc]
theorem num_ext {g g' : Nat → Int} {a n : Nat} (h : ∀ j, a ≤ j → j < a + n → g j = g' j) : num g a n = num g' a n := by
  induction n with
  | zero => rfl
  | succ n ih =>
    unfold num
    rw [ih (fun j h1 h2 => h j h1 (by omega)), h (a + n) (by omega) (by omega)]
/-- A row of bytes of the call's own. -/
abbrev OB (w : World) (B : Nat) (v : Value) (n : Nat) (g : Nat → Int) : Prop := Ow w B 5 1 v n (fun j => .int .u8 (g j))
theorem OB.store {w : World} {B G n c : Nat} {g : Nat → Int} (h : OB w B (.slice (some ⟨G, 0, none⟩) n c) n g) (i : Nat) (x : Int) : OB (w.setCell ⟨G, i, none⟩ (.int .u8 x)) B (.slice (some ⟨G, 0, none⟩) n c) n (set1 g i x) :=
  (Ow.store_ h i (.int .u8 x)).as_ fun j _ => by unfold put1 set1; split <;> rfl
theorem OB.as2 {w : World} {B n : Nat} {v : Value} {g g' : Nat → Int} (h : OB w B v n g) (hg : ∀ j, j < n → g j = g' j) : OB w B v n g' := h.as_ fun j hj => by rw [hg j (by omega)]
end Go.Proofs.Ytjljaecjnpmdoaa
