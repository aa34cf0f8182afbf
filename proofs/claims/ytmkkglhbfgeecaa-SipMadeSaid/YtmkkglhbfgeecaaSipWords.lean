/- The document's sum of numbers: of their bytes. -/
import Derived.Test.YtmkkglhbfgeecaaSipRef
namespace Go.Proofs.Ytmkkglhbfgeecaa
set_option linter.unusedVariables false
open Go.RowKit Go.ChangeShapes Go.WideShapes Go.ChangeAt

/-- Byte q of numbers laid one behind the other, the lowest byte first. -/
def byteOf (f : Nat → Int) (q : Nat) : Int := IntKind.u64.wrap (f (q / 8)) / 2 ^ (8 * (q % 8)) % 256
theorem byteOf_b (f : Nat → Int) : IsB (byteOf f) := fun q => by unfold byteOf; omega
theorem byteOf_at (f : Nat → Int) (i j : Nat) (hj : j < 8) : byteOf f (8 * i + j) = IntKind.u64.wrap (f i) / 256 ^ j % 256 := by
  have h1 : (8 * i + j) / 8 = i := by omega
  have h2 : (8 * i + j) % 8 = j := by omega
  have h3 : (2 : Int) ^ (8 * j) = 256 ^ j := by rw [Int.pow_mul]; rfl
  unfold byteOf
  rw [h1, h2, h3]
theorem num_byteOf (f : Nat → Int) (i : Nat) : num (fun j => byteOf f (8 * i + j)) 8 = IntKind.u64.wrap (f i) := by
  have hU := U_wrap (f i)
  generalize hx : IntKind.u64.wrap (f i) = x at *
  unfold U at hU
  simp only [num, byteOf_at f i _ (show 0 < 8 by omega), byteOf_at f i _ (show 1 < 8 by omega), byteOf_at f i _ (show 2 < 8 by omega), byteOf_at f i _ (show 3 < 8 by omega), byteOf_at f i _ (show 4 < 8 by omega), byteOf_at f i _ (show 5 < 8 by omega), byteOf_at f i _ (show 6 < 8 by omega), byteOf_at f i _ (show 7 < 8 by omega), hx]
  simp only [Int.pow_succ, Int.pow_zero, Int.one_mul, Int.ediv_one, Int.mul_one, Int.zero_add]
  omega
theorem sumB_words (a b : Int) (f : Nat → Int) (n : Nat) : sumB a b (byteOf f) (8 * n) = sumW a b f n := by
  have h1 : 8 * n / 8 = n := by omega
  have h2 : 8 * n % 8 = 0 := by omega
  unfold sumB sumW
  rw [h1, h2, eats_ext _ n (fun i _ => num_byteOf f i)]
  rfl


end Go.Proofs.Ytmkkglhbfgeecaa
