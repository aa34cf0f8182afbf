/- number. -/
import Derived.Test.YtjljaecjnpmdoaaWirPut
import Derived.BigQuiet
import Derived.Deep.RegionHeld3
import Derived.Deep.Cut
namespace Go.Proofs.Ytjljaecjnpmdoaa
set_option linter.unusedVariables false
set_option linter.unusedSimpArgs false
open Go.RowKit Go.ChangeShapes Go.WideShapes Go.ChangeAt

theorem or_shl (a b : Int) (ha : 0 ≤ a) (ha' : a ≤ 72057594037927935 / 2) (hb : 0 ≤ b) (hb' : b ≤ 255) : bits .or .i64 (a * 256) b = a * 256 + b := by
  obtain ⟨x, rfl⟩ := Int.eq_ofNat_of_zero_le ha
  obtain ⟨y, rfl⟩ := Int.eq_ofNat_of_zero_le hb
  have e : ((x : Int) * 256) = ((x * 256 : Nat) : Int) := by omega
  have hor : x * 256 ||| y = x * 256 + y := by
    rw [Nat.mul_comm, show (256 : Nat) = 2 ^ 8 from rfl, Nat.two_pow_add_eq_or_of_lt (by omega)]
  rw [e]
  show IntKind.i64.wrap ((BitVec.ofInt 64 ((x * 256 : Nat) : Int) ||| BitVec.ofInt 64 ((y : Nat) : Int)).toNat : Int) = _
  rw [BitVec.toNat_or, BitVec.ofInt_natCast, BitVec.ofInt_natCast, BitVec.toNat_ofNat, BitVec.toNat_ofNat, Nat.mod_eq_of_lt (by omega), Nat.mod_eq_of_lt (by omega), hor, IntKind.wrap_i64]
  omega
theorem num_bd4 {g : Nat → Int} (hg : IsB g) (a k : Nat) (hk : k ≤ 3) : 0 ≤ num g a k ∧ num g a k ≤ 16777215 := by
  have h := num_bd hg a k
  have : (256 : Int) ^ k ≤ 256 ^ 3 := by rcases (show k = 0 ∨ k = 1 ∨ k = 2 ∨ k = 3 by omega) with e | e | e | e <;> subst e <;> decide
  have h3 : (256 : Int) ^ 3 = 16777216 := by decide
  omega
theorem number_any (A : Option Addr) (m c : Nat) (g : Nat → Int) (w : World) (h : By w A m g) (hg : IsB g) (hm : m ≤ 4) :
    Calls Try.prog 47 #[.slice A m c] w fun e w' => e = .returned (.int .i64 (num g 0 m)) ∧ w = w' := by
  go_enter Try.func47, Try.ntmps47
  go_wp2_with fail
  go_loop [3, 8] (fun x i => ∃ k : Nat, k ≤ m ∧ i = .int .i64 k ∧ x = .int .i64 (num g 0 k)) (fun _ i => m - (intOf i).toNat)
  case atStart => exact ⟨0, by omega, rfl, rfl⟩
  case round =>
    obtain ⟨k, hk, rfl, rfl⟩ := hrel
    by_cases hlt : k < m
    · obtain ⟨b, off, rfl, hblt, hcell⟩ := h (by omega)
      have c1 := hcell k hlt
      have i0 : (0 : Int) ≤ k := by omega
      have i1 : (k : Int) < m := by omega
      have nb := num_bd4 hg 0 k (by omega)
      obtain ⟨n0, n1⟩ := nb
      have gb := hg k
      obtain ⟨g0, g1⟩ := gb
      have oq := or_shl (num g 0 k) (g k) n0 (by omega) g0 g1
      have en : Hid (num g 0 (k + 1) = num g 0 k * 256 + g k) := hid (by simp [num])
      clear hcell h
      go_wp2_with fail
      go_round
      case rel => exact ⟨k + 1, by omega, by go_num, by rw [en.out]⟩
      case measure => simp [intOf]; omega
    · obtain rfl : k = m := by omega
      have i1 : ¬ (k : Int) < k := by omega
      go_wp2_with fail
      go_ret
      exact ⟨rfl, rfl⟩
theorem rnum_any (A : Option Addr) (n c : Nat) (g : Nat → Int) (w : World) (h : By w A n g) (hg : IsB g) (at_ m : Nat) (hm : m ≤ 4) (hn : at_ + m ≤ n) (hb : n ≤ 1000000) :
    Calls Try.prog 32 #[.slice A n c, .int .i64 at_, .int .i64 m] w fun e w' => e = .returned (.int .i64 (num g at_ m)) ∧ w = w' := by
  go_enter Try.func32, Try.ntmps32
  go_wp2_with fail
  go_loop [7, 8] (fun x i => ∃ k : Nat, k ≤ m ∧ i = .int .i64 k ∧ x = .int .i64 (num g at_ k)) (fun _ i => m - (intOf i).toNat)
  case atStart => exact ⟨0, by omega, rfl, rfl⟩
  case round =>
    obtain ⟨k, hk, rfl, rfl⟩ := hrel
    by_cases hlt : k < m
    · obtain ⟨b, off, rfl, hblt, hcell⟩ := h (by omega)
      have c1 := hcell (at_ + k) (by omega)
      have i0 : (0 : Int) ≤ k := by omega
      have i1 : (k : Int) < m := by omega
      have i2 : (0 : Int) ≤ (at_ : Int) + k := by omega
      have i3 : (at_ : Int) + k < n := by omega
      have i4 : IntKind.i64.wrap ((at_ : Int) + k) = (at_ : Int) + k := IntWalk.i64_in _ (by omega)
      have nb := num_bd4 hg at_ k (by omega)
      obtain ⟨n0, n1⟩ := nb
      have gb := hg (at_ + k)
      obtain ⟨g0, g1⟩ := gb
      have oq := or_shl (num g at_ k) (g (at_ + k)) n0 (by omega) g0 g1
      have en : Hid (num g at_ (k + 1) = num g at_ k * 256 + g (at_ + k)) := hid (by simp [num])
      clear hcell h
      go_wp2_with fail
      go_round
      case rel => exact ⟨k + 1, by omega, by go_num, by rw [en.out]⟩
      case measure => simp [intOf]; omega
    · obtain rfl : k = m := by omega
      have i1 : ¬ (k : Int) < k := by omega
      go_wp2_with fail
      go_ret
      exact ⟨rfl, rfl⟩
end Go.Proofs.Ytjljaecjnpmdoaa
