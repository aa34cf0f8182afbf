/- Cookies and stamps that carry, as plain numbers. -/
import Derived.Test.YtfokkmemjkfifabSipEnd
namespace Go.Proofs.Ytfokkmemjkfifab
set_option linter.unusedVariables false
open Go.RowKit Go.ChangeShapes Go.WideShapes Go.ChangeAt

def xr (a b : Int) : Int := ((a.toNat ^^^ b.toNat : Nat) : Int)
theorem xr_bd (a b : Int) (ha : 0 ≤ a ∧ a < 64) (hb : 0 ≤ b ∧ b < 64) : 0 ≤ xr a b ∧ xr a b < 64 := by
  have : a.toNat ^^^ b.toNat < 2 ^ 6 := Nat.xor_lt_two_pow (by omega) (by omega)
  unfold xr
  omega
theorem xr_back (a b : Int) (ha : 0 ≤ a) : xr (xr a b) b = a := by
  unfold xr
  rw [Int.toNat_natCast, Nat.xor_assoc, Nat.xor_self, Nat.xor_zero]
  omega
theorem xr_inj (a c b : Int) (ha : 0 ≤ a) (hc : 0 ≤ c) (h : xr a b = xr c b) : a = c := by
  rw [← xr_back a b ha, h, xr_back c b hc]
theorem wrap_mod (x : Int) (j : Nat) (hj : j ≤ 64) : IntKind.i64.wrap x % 2 ^ j = x % 2 ^ j := by
  have h1 : ((2 : Int) ^ j) ∣ 2 ^ 64 := ⟨2 ^ (64 - j), by rw [← Int.pow_add]; congr 1; omega⟩
  have h2 : IntKind.i64.wrap x % 2 ^ 64 = x % 2 ^ 64 := by rw [IntKind.wrap_i64]; omega
  rw [← Int.emod_emod_of_dvd (IntKind.i64.wrap x) h1, h2, Int.emod_emod_of_dvd _ h1]
theorem ofInt_mod (x : Int) (j : Nat) (hj : j ≤ 64) : (BitVec.ofInt 64 x).toNat % 2 ^ j = (x % 2 ^ j).toNat := by
  rw [BitVec.toNat_ofInt]
  have h1 : ((2 : Int) ^ j) ∣ 2 ^ 64 := ⟨2 ^ (64 - j), by rw [← Int.pow_add]; congr 1; omega⟩
  have h0 : (0 : Int) < 2 ^ j := Int.pow_pos (by omega)
  have h3 : 0 ≤ x % 2 ^ 64 := Int.emod_nonneg _ (by decide)
  have h4 : 0 ≤ x % 2 ^ j := Int.emod_nonneg _ (by omega)
  apply Int.ofNat.inj
  show ((((x % ((2 ^ 64 : Nat) : Int)).toNat % 2 ^ j : Nat)) : Int) = (((x % 2 ^ j).toNat : Nat) : Int)
  rw [Int.natCast_emod, Int.toNat_of_nonneg (by simpa using h3), Int.toNat_of_nonneg h4]
  have : (((2 ^ j : Nat)) : Int) = 2 ^ j := by simp
  rw [this, show (((2 ^ 64 : Nat)) : Int) = 2 ^ 64 from by simp, Int.emod_emod_of_dvd _ h1]
theorem and_i64 (x : Int) (j : Nat) (hj : j ≤ 62) : bits .and .i64 x (2 ^ j - 1) = x % 2 ^ j := by
  have h0 : (0 : Int) < 2 ^ j := Int.pow_pos (by omega)
  have hp : (2 : Nat) ^ j ≤ 2 ^ 62 := Nat.pow_le_pow_right (by omega) hj
  have hq : (((2 ^ j : Nat)) : Int) = 2 ^ j := by simp
  have e : BitVec.ofInt 64 (2 ^ j - 1) = BitVec.ofNat 64 (2 ^ j - 1) := by
    rw [← BitVec.ofInt_natCast]
    congr 1
    have := Nat.two_pow_pos j
    omega
  show IntKind.i64.wrap ((BitVec.ofInt 64 x &&& BitVec.ofInt 64 (2 ^ j - 1)).toNat : Int) = _
  rw [e, BitVec.toNat_and, BitVec.toNat_ofNat, Nat.mod_eq_of_lt (show 2 ^ j - 1 < 2 ^ 64 by omega), Nat.and_two_pow_sub_one_eq_mod, ofInt_mod x j (by omega)]
  have h4 : 0 ≤ x % 2 ^ j := Int.emod_nonneg _ (by omega)
  have h5 : x % 2 ^ j < 2 ^ j := Int.emod_lt_of_pos _ h0
  rw [Int.toNat_of_nonneg h4, IntKind.wrap_i64]
  omega
theorem xor_mod (x y : Int) (j : Nat) (hj : j ≤ 64) : bits .xor .i64 x y % 2 ^ j = xr (x % 2 ^ j) (y % 2 ^ j) := by
  show IntKind.i64.wrap ((BitVec.ofInt 64 x ^^^ BitVec.ofInt 64 y).toNat : Int) % 2 ^ j = _
  rw [wrap_mod _ _ hj, BitVec.toNat_xor]
  have hq : (((2 ^ j : Nat)) : Int) = 2 ^ j := by simp
  rw [← hq, ← Int.natCast_emod, Nat.xor_mod_two_pow, ofInt_mod x j hj, ofInt_mod y j hj]
  simp [xr]
theorem or_i64 (x y i : Nat) (hx : x < 2 ^ i) (hx2 : x < 2 ^ 62) (hy : y * 2 ^ i < 2 ^ 62) : bits .or .i64 ((y * 2 ^ i : Nat) : Int) (x : Int) = ((y * 2 ^ i + x : Nat) : Int) := by
  have hor : y * 2 ^ i ||| x = y * 2 ^ i + x := by
    rw [Nat.mul_comm y, ← Nat.two_pow_add_eq_or_of_lt hx]
  have hs : y * 2 ^ i + x < 2 ^ 62 := by rw [← hor]; exact Nat.or_lt_two_pow hy hx2
  show IntKind.i64.wrap ((BitVec.ofInt 64 ((y * 2 ^ i : Nat) : Int) ||| BitVec.ofInt 64 (x : Int)).toNat : Int) = _
  rw [BitVec.toNat_or, BitVec.ofInt_natCast, BitVec.ofInt_natCast, BitVec.toNat_ofNat, BitVec.toNat_ofNat, Nat.mod_eq_of_lt (by omega), Nat.mod_eq_of_lt (by omega), hor, IntKind.wrap_i64]
  omega
/-- The masks that are met. -/
theorem mand3 (x : Int) : bits .and .i64 x 3 = x % 4 := and_i64 x 2 (by omega)
theorem mand63 (x : Int) : bits .and .i64 x 63 = x % 64 := and_i64 x 6 (by omega)
theorem mand255 (x : Int) : bits .and .i64 x 255 = x % 256 := and_i64 x 8 (by omega)
theorem mand4095 (x : Int) : bits .and .i64 x 4095 = x % 4096 := and_i64 x 12 (by omega)
theorem mand20 (x : Int) : bits .and .i64 x 1048575 = x % 1048576 := and_i64 x 20 (by omega)
theorem xor64 (x y : Int) : bits .xor .i64 x y % 64 = xr (x % 64) (y % 64) := xor_mod x y 6 (by omega)
/-- Numbers of which one lies below the other's lowest bit are joined by adding. -/
theorem or_join (y x p : Int) (i : Nat) (hp : p = 2 ^ i) (hy : 0 ≤ y) (hx : 0 ≤ x) (hxp : x < p) (hb : y * p < 2 ^ 62) (hp2 : p < 2 ^ 62) : bits .or .i64 (y * p) x = y * p + x := by
  obtain ⟨a, rfl⟩ := Int.eq_ofNat_of_zero_le hy
  obtain ⟨b, rfl⟩ := Int.eq_ofNat_of_zero_le hx
  have e : p = ((2 ^ i : Nat) : Int) := by rw [hp]; simp
  subst e
  have := or_i64 b a i (by omega) (by omega) (by rw [← Int.natCast_mul] at hb; omega)
  rw [Int.natCast_mul, Int.natCast_add, Int.natCast_mul] at this
  exact this

/-- Who talks to whom. -/
structure Fl where
  a : Int
  p : Int
  ta : Int
  tp : Int
def Fl.ok (f : Fl) : Prop := (0 ≤ f.a ∧ f.a < 4294967296) ∧ (0 ≤ f.p ∧ f.p < 65536) ∧ (0 ≤ f.ta ∧ f.ta < 4294967296) ∧ (0 ≤ f.tp ∧ f.tp < 65536)
structure Ky where
  a : Int
  b : Int
structure Rg where
  e : Int
  p : Ky
  c : Ky
  n : Ky
/-- The keyed sum of a kind, a flow, two numbers. -/
def W7 (k : Ky) (kd : Int) (f : Fl) (x e : Int) : Int := sumW k.a k.b (fun j => [kd, f.a, f.p, f.ta, f.tp, x, e].getD j 0) 7
/-- A cookie; T is two to as many as its tag has bits. -/
def cok (T : Int) (k : Ky) (kd : Int) (f : Fl) (s e : Int) : Int := e * (64 * T) + xr s (W7 k kd f 64 e % 64) * T + W7 k kd f s e % T
def keyOf (r : Rg) (e : Int) : Option Ky :=
  if e % 4 = (r.e - 1) % 4 then some r.p else if e % 4 = r.e % 4 then some r.c else if e % 4 = (r.e + 1) % 4 then some r.n else none
def slotOf (T : Int) (k : Ky) (kd : Int) (f : Fl) (c : Int) : Int := xr (c / T % 64) (W7 k kd f 64 (c / (64 * T)) % 64)
def readC (T : Int) (r : Rg) (kd : Int) (f : Fl) (c : Int) : Option Int :=
  if c < 0 ∨ 256 * T ≤ c then none else
  match keyOf r (c / (64 * T)) with
  | none => none
  | some k => if cok T k kd f (slotOf T k kd f c) (c / (64 * T)) = c then some (slotOf T k kd f c) else none

theorem slotOf_bd (T : Int) (k : Ky) (kd : Int) (f : Fl) (c : Int) : 0 ≤ slotOf T k kd f c ∧ slotOf T k kd f c < 64 := by
  unfold slotOf
  exact xr_bd _ _ (by omega) (by omega)
theorem cok_parts (T : Int) (k : Ky) (kd : Int) (f : Fl) (s e : Int) (hT : T = 4096 ∨ T = 256) (hs : 0 ≤ s ∧ s < 64) (he : 0 ≤ e ∧ e < 4) :
    cok T k kd f s e / (64 * T) = e ∧ cok T k kd f s e / T % 64 = xr s (W7 k kd f 64 e % 64) ∧ cok T k kd f s e % T = W7 k kd f s e % T ∧ 0 ≤ cok T k kd f s e ∧ cok T k kd f s e < 256 * T := by
  have h1 := xr_bd s (W7 k kd f 64 e % 64) hs (by omega)
  unfold cok
  generalize xr s (W7 k kd f 64 e % 64) = m at *
  generalize W7 k kd f s e = x
  rcases hT with rfl | rfl <;> omega
theorem slotOf_cok (T : Int) (k : Ky) (kd : Int) (f : Fl) (s e : Int) (hT : T = 4096 ∨ T = 256) (hs : 0 ≤ s ∧ s < 64) (he : 0 ≤ e ∧ e < 4) : slotOf T k kd f (cok T k kd f s e) = s := by
  obtain ⟨h1, h2, _⟩ := cok_parts T k kd f s e hT hs he
  unfold slotOf
  rw [h1, h2, xr_back _ _ hs.1]
theorem read_cok (T : Int) (r : Rg) (k : Ky) (kd : Int) (f : Fl) (s e : Int) (hT : T = 4096 ∨ T = 256) (hs : 0 ≤ s ∧ s < 64) (he : 0 ≤ e ∧ e < 4) (hk : keyOf r e = some k) : readC T r kd f (cok T k kd f s e) = some s := by
  obtain ⟨h1, h2, h3, h4, h5⟩ := cok_parts T k kd f s e hT hs he
  unfold readC
  rw [if_neg (by omega), h1, hk]
  simp only [slotOf_cok T k kd f s e hT hs he, if_true]
theorem cok_inj (T : Int) (k : Ky) (kd : Int) (f : Fl) (s t e : Int) (hT : T = 4096 ∨ T = 256) (hs : 0 ≤ s ∧ s < 64) (ht : 0 ≤ t ∧ t < 64) (he : 0 ≤ e ∧ e < 4) (h : cok T k kd f s e = cok T k kd f t e) : s = t := by
  rw [← slotOf_cok T k kd f s e hT hs he, h, slotOf_cok T k kd f t e hT ht he]
theorem read_bd (T : Int) (r : Rg) (kd : Int) (f : Fl) (c s : Int) (h : readC T r kd f c = some s) : 0 ≤ s ∧ s < 64 := by
  unfold readC at h
  split at h
  · cases h
  · split at h
    · cases h
    · split at h
      · injection h with h
        rw [← h]
        exact slotOf_bd _ _ _ _ _
      · cases h
theorem keyOf_now (r : Rg) : keyOf r (r.e % 4) = some r.c := by
  unfold keyOf
  rw [if_neg (by omega), if_pos (by omega)]
theorem keyOf_prev (r : Rg) : keyOf r ((r.e - 1) % 4) = some r.p := by
  unfold keyOf
  rw [if_pos (by omega)]
theorem keyOf_next (r : Rg) : keyOf r ((r.e + 1) % 4) = some r.n := by
  unfold keyOf
  rw [if_neg (by omega), if_neg (by omega), if_pos (by omega)]
theorem keyOf_none (r : Rg) : keyOf r ((r.e + 2) % 4) = none := by
  unfold keyOf
  rw [if_neg (by omega), if_neg (by omega), if_neg (by omega)]

/-- Stamps that carry. -/
def putV (v c : Int) : Int := v / 256 % 4096 * 1048576 + c
def near8 (n : Int) : Int := n - n % 256
def backD (v n : Int) : Int := (v / 1048576 * 256 - near8 n) % 1048576
def backV (v n : Int) : Int := (near8 n + (if backD v n < 524288 then backD v n else backD v n - 1048576)) % 4294967296
end Go.Proofs.Ytfokkmemjkfifab
