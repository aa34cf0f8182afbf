/- Numbers out of bytes, the lowest first. -/
import Derived.Test.YtejlfbiehcfbgaaSipBase
namespace Go.Proofs.Ytejlfbiehcfbgaa
set_option linter.unusedVariables false
open Go.RowKit Go.ChangeShapes Go.WideShapes Go.ChangeAt

/-- The first n bytes as a number, the lowest first. -/
def num (f : Nat → Int) : Nat → Int
  | 0 => 0
  | k + 1 => num f k + f k * 256 ^ k

theorem num_bd (f : Nat → Int) (hf : IsB f) (k : Nat) : 0 ≤ num f k ∧ num f k < 256 ^ k := by
  induction k with
  | zero => simp [num]
  | succ k ih =>
    have h := hf k
    have hp : (0 : Int) < 256 ^ k := Int.pow_pos (by omega)
    have h1 : f k * 256 ^ k ≤ 255 * 256 ^ k := Int.mul_le_mul_of_nonneg_right h.2 (by omega)
    have h2 : 0 ≤ f k * 256 ^ k := Int.mul_nonneg h.1 (by omega)
    rw [num, Int.pow_succ]
    omega
theorem num_ext {f f' : Nat → Int} : ∀ n, (∀ j, j < n → f j = f' j) → num f n = num f' n
  | 0, _ => rfl
  | n + 1, h => by rw [num, num, num_ext n (fun j hj => h j (by omega)), h n (by omega)]
/-- Bits that do not meet are added. -/
theorem or_apart (x y i : Nat) (hx : x < 2 ^ i) (hx2 : x < 2 ^ 64) (hy : y * 2 ^ i < 2 ^ 64) : bits .or .u64 (x : Int) ((y * 2 ^ i : Nat) : Int) = ((x + y * 2 ^ i : Nat) : Int) := by
  have hor : x ||| y * 2 ^ i = x + y * 2 ^ i := by
    rw [Nat.or_comm, Nat.mul_comm y, ← Nat.two_pow_add_eq_or_of_lt hx, Nat.add_comm]
  have hs : x + y * 2 ^ i < 2 ^ 64 := by rw [← hor]; exact Nat.or_lt_two_pow hx2 hy
  show IntKind.u64.wrap ((BitVec.ofInt 64 (x : Int) ||| BitVec.ofInt 64 ((y * 2 ^ i : Nat) : Int)).toNat : Int) = _
  rw [BitVec.toNat_or, BitVec.ofInt_natCast, BitVec.ofInt_natCast, BitVec.toNat_ofNat, BitVec.toNat_ofNat, Nat.mod_eq_of_lt hx2, Nat.mod_eq_of_lt hy, hor, IntKind.wrap_u64]
  omega
theorem or_num (f : Nat → Int) (hf : IsB f) (k : Nat) (hk : k < 8) : bits .or .u64 (num f k) (IntKind.u64.wrap (f k * 2 ^ (8 * k))) = num f (k + 1) := by
  have h1 := num_bd f hf k
  obtain ⟨x, hx⟩ := Int.eq_ofNat_of_zero_le h1.1
  obtain ⟨y, hy⟩ := Int.eq_ofNat_of_zero_le (hf k).1
  have hy2 := (hf k).2
  have e0 : (256 : Int) ^ k = ((2 ^ (8 * k) : Nat) : Int) := by rw [Nat.pow_mul]; simp
  have e1 : (2 : Int) ^ (8 * k) = ((2 ^ (8 * k) : Nat) : Int) := by simp
  rw [num, e0, e1, hx, hy]
  rw [hx, e0] at h1
  rw [hy] at hy2
  have hpos : 0 < 2 ^ (8 * k) := Nat.two_pow_pos (8 * k)
  have hle : y * 2 ^ (8 * k) ≤ 255 * 2 ^ 56 := Nat.mul_le_mul (by omega) (Nat.pow_le_pow_right (by omega) (by omega))
  have hlt : y * 2 ^ (8 * k) < 2 ^ 64 := by omega
  have e2 : (y : Int) * ((2 ^ (8 * k) : Nat) : Int) = ((y * 2 ^ (8 * k) : Nat) : Int) := by rw [Int.natCast_mul]
  rw [e2]
  have e3 : IntKind.u64.wrap ((y * 2 ^ (8 * k) : Nat) : Int) = ((y * 2 ^ (8 * k) : Nat) : Int) := by rw [IntKind.wrap_u64]; omega
  have h56 : 2 ^ (8 * k) ≤ 2 ^ 56 := Nat.pow_le_pow_right (by omega) (by omega)
  rw [e3, or_apart x y (8 * k) (by omega) (by omega) hlt]
  omega

theorem low_any (A : Option Addr) (n c : Nat) (f : Nat → Int) (w : World) (h : By w A n f) (hf : IsB f) (hn : n ≤ 8) :
    Calls Try.prog 47 #[.slice A n c] w fun e w' => e = .returned (.int .u64 (num f n)) ∧ w = w' := by
  go_enter Try.func47, Try.ntmps47
  go_wp2_with fail
  go_loop [3, 4] (fun t i => ∃ k : Nat, k ≤ n ∧ i = .int .i64 k ∧ t = .int .u64 (num f k)) (fun _ i => n - (intOf i).toNat)
  case atStart => exact ⟨0, by omega, rfl, rfl⟩
  case round =>
    obtain ⟨k, hk, rfl, rfl⟩ := hrel
    by_cases hlt : k < n
    · obtain ⟨b, off, rfl, _, hc⟩ := h (by omega)
      have c0 : w.cell? ⟨b, off + k, none⟩ = some (.int .u8 (f k)) := hc _ hlt
      have i1 : (k : Int) < n := by omega
      have b0 := hf k
      clear hc h
      have hor := hid (or_num f hf k (by omega))
      go_wp2_with fail
      go_round
      case rel => exact ⟨k + 1, by omega, by go_num, by rw [hor.out]⟩
      case measure => simp [intOf]; omega
    · have e : k = n := by omega
      subst e
      have i1 : ¬ (k : Int) < k := by omega
      go_wp2
      go_ret
      exact ⟨rfl, rfl⟩
end Go.Proofs.Ytejlfbiehcfbgaa
