/- Cookies and stamps that carry, as plain numbers. The least contracts of cookies, of both packages. Cookies together and apart; their tags. Tags, masks, the parts of a cookie. Cookies apart; the document's cookies; keys by epochs. Keys by epochs; cookies made, of both packages. -/
import Derived.Test.YteapnfdpkjbfhaaGreatGa
import Derived.Test.YteapnfdpkjbfhaaGreatGsb
import Derived.Deep.RegionHeld3
import Derived.Deep.RegionWith
namespace Go.Proofs.YteapnfdpkjbfhaaGreat
set_option linter.unusedVariables false
open Go.RowKit Go.ChangeShapes Go.WideShapes Go.ChangeAt
def xr (a b : Int) : Int := ((a.toNat ^^^ b.toNat : Nat) : Int)
theorem xr_bd (a b : Int) (ha : 0 ≤ a ∧ a < 64) (hb : 0 ≤ b ∧ b < 64) : 0 ≤ xr a b ∧ xr a b < 64 := by
 have : a.toNat ^^^ b.toNat < 2 ^ 6 := Nat.xor_lt_two_pow (by omega) (by omega)
 unfold xr
 omega
theorem xr_back (a b : Int) (ha : 0 ≤ a) : xr (xr a b) b = a := by
 unfold xr
 rw [Int.toNat_natCast, Nat.xor_assoc, Nat.xor_self, Nat.xor_zero]
 omega
theorem wrap_mod (x : Int) (j : Nat) (hj : j ≤ 64) : IntKind.i64.wrap x % 2 ^ j = x % 2 ^ j := by
 have h1 : ((2 : Int) ^ j) ∣ 2 ^ 64 := ⟨2 ^ (64 - j), by rw [← Int.pow_add]; congr 1; omega⟩
 have h2 : IntKind.i64.wrap x % 2 ^ 64 = x % 2 ^ 64 := by rw [IntKind.wrap_i64]; omega
 rw [← Int.emod_emod_of_dvd (IntKind.i64.wrap x) h1, h2, Int.emod_emod_of_dvd _ h1]
theorem ofInt_mod (x : Int) (j : Nat) (hj : j ≤ 64) : (BitVec.ofInt 64 x).toNat % 2 ^ j = (x % 2 ^ j).toNat := by
 rw [BitVec.toNat_ofInt]
 have h1 : ((2 : Int) ^ j) ∣ 2 ^ 64 := ⟨2 ^ (64 - j), by rw [← Int.pow_add]; congr 1; omega⟩
 have h0 : (0 : Int) < 2 ^ j := Int.pow_pos (by omega)
 have h3 : 0 ≤ x % 2 ^ 64 := Int.emod_nonneg _ (by decide)
 have h4 : 0 ≤ x % 2 ^ j := Int.emod_nonneg _ (by omega)
 apply Int.ofNat.inj
 show ((((x % ((2 ^ 64 : Nat) : Int)).toNat % 2 ^ j : Nat)) : Int) = (((x % 2 ^ j).toNat : Nat) : Int)
 rw [Int.natCast_emod, Int.toNat_of_nonneg (by simpa using h3), Int.toNat_of_nonneg h4]
 have : (((2 ^ j : Nat)) : Int) = 2 ^ j := by simp
 rw [this, show (((2 ^ 64 : Nat)) : Int) = 2 ^ 64 from by simp, Int.emod_emod_of_dvd _ h1]
theorem and_i64 (x : Int) (j : Nat) (hj : j ≤ 62) : bits .and .i64 x (2 ^ j - 1) = x % 2 ^ j := by
 have h0 : (0 : Int) < 2 ^ j := Int.pow_pos (by omega)
 have hp : (2 : Nat) ^ j ≤ 2 ^ 62 := Nat.pow_le_pow_right (by omega) hj
 have hq : (((2 ^ j : Nat)) : Int) = 2 ^ j := by simp
 have e : BitVec.ofInt 64 (2 ^ j - 1) = BitVec.ofNat 64 (2 ^ j - 1) := by
  rw [← BitVec.ofInt_natCast]
  congr 1
  have := Nat.two_pow_pos j
  omega
 show IntKind.i64.wrap ((BitVec.ofInt 64 x &&& BitVec.ofInt 64 (2 ^ j - 1)).toNat : Int) = _
 rw [e, BitVec.toNat_and, BitVec.toNat_ofNat, Nat.mod_eq_of_lt (show 2 ^ j - 1 < 2 ^ 64 by omega), Nat.and_two_pow_sub_one_eq_mod, ofInt_mod x j (by omega)]
 have h4 : 0 ≤ x % 2 ^ j := Int.emod_nonneg _ (by omega)
 have h5 : x % 2 ^ j < 2 ^ j := Int.emod_lt_of_pos _ h0
 rw [Int.toNat_of_nonneg h4, IntKind.wrap_i64]
 omega
theorem xor_mod (x y : Int) (j : Nat) (hj : j ≤ 64) : bits .xor .i64 x y % 2 ^ j = xr (x % 2 ^ j) (y % 2 ^ j) := by
 show IntKind.i64.wrap ((BitVec.ofInt 64 x ^^^ BitVec.ofInt 64 y).toNat : Int) % 2 ^ j = _
 rw [wrap_mod _ _ hj, BitVec.toNat_xor]
 have hq : (((2 ^ j : Nat)) : Int) = 2 ^ j := by simp
 rw [← hq, ← Int.natCast_emod, Nat.xor_mod_two_pow, ofInt_mod x j hj, ofInt_mod y j hj]
 simp [xr]
theorem or_i64 (x y i : Nat) (hx : x < 2 ^ i) (hx2 : x < 2 ^ 62) (hy : y * 2 ^ i < 2 ^ 62) : bits .or .i64 ((y * 2 ^ i : Nat) : Int) (x : Int) = ((y * 2 ^ i + x : Nat) : Int) := by
 have hor : y * 2 ^ i ||| x = y * 2 ^ i + x := by
  rw [Nat.mul_comm y, ← Nat.two_pow_add_eq_or_of_lt hx]
 have hs : y * 2 ^ i + x < 2 ^ 62 := by rw [← hor]; exact Nat.or_lt_two_pow hy hx2
 show IntKind.i64.wrap ((BitVec.ofInt 64 ((y * 2 ^ i : Nat) : Int) ||| BitVec.ofInt 64 (x : Int)).toNat : Int) = _
 rw [BitVec.toNat_or, BitVec.ofInt_natCast, BitVec.ofInt_natCast, BitVec.toNat_ofNat, BitVec.toNat_ofNat, Nat.mod_eq_of_lt (by omega), Nat.mod_eq_of_lt (by omega), hor, IntKind.wrap_i64]
 omega
/-- The masks that are met. -/
theorem mand3 (x : Int) : bits .and .i64 x 3 = x % 4 := and_i64 x 2 (by omega)
theorem mand63 (x : Int) : bits .and .i64 x 63 = x % 64 := and_i64 x 6 (by omega)
theorem mand255 (x : Int) : bits .and .i64 x 255 = x % 256 := and_i64 x 8 (by omega)
theorem mand4095 (x : Int) : bits .and .i64 x 4095 = x % 4096 := and_i64 x 12 (by omega)
theorem mand20 (x : Int) : bits .and .i64 x 1048575 = x % 1048576 := and_i64 x 20 (by omega)
theorem xor64 (x y : Int) : bits .xor .i64 x y % 64 = xr (x % 64) (y % 64) := xor_mod x y 6 (by omega)
/-- Numbers of which one lies below the other's lowest bit are joined by adding. -/
theorem or_join (y x p : Int) (i : Nat) (hp : p = 2 ^ i) (hy : 0 ≤ y) (hx : 0 ≤ x) (hxp : x < p) (hb : y * p < 2 ^ 62) (hp2 : p < 2 ^ 62) : bits .or .i64 (y * p) x = y * p + x := by
 obtain ⟨a, rfl⟩ := Int.eq_ofNat_of_zero_le hy
 obtain ⟨b, rfl⟩ := Int.eq_ofNat_of_zero_le hx
 have e : p = ((2 ^ i : Nat) : Int) := by rw [hp]; simp
 subst e
 have := or_i64 b a i (by omega) (by omega) (by rw [← Int.natCast_mul] at hb; omega)
 rw [Int.natCast_mul, Int.natCast_add, Int.natCast_mul] at this
 exact this
def Fl.ok (f : Fl) : Prop := (0 ≤ f.a ∧ f.a < 4294967296) ∧ (0 ≤ f.p ∧ f.p < 65536) ∧ (0 ≤ f.ta ∧ f.ta < 4294967296) ∧ (0 ≤ f.tp ∧ f.tp < 65536)
/-- The keyed sum of a kind, a flow, two numbers. -/
def W7 (k : Ky) (kd : Int) (f : Fl) (x e : Int) : Int := sumW k.a k.b (fun j => [kd, f.a, f.p, f.ta, f.tp, x, e].getD j 0) 7
/-- A cookie; T is two to as many as its tag has bits. -/
def cok (T : Int) (k : Ky) (kd : Int) (f : Fl) (s e : Int) : Int := e * (64 * T) + xr s (W7 k kd f 64 e % 64) * T + W7 k kd f s e % T
def keyOf (r : Rg) (e : Int) : Option Ky :=
 if e % 4 = (r.e - 1) % 4 then some r.p else if e % 4 = r.e % 4 then some r.c else if e % 4 = (r.e + 1) % 4 then some r.n else none
def slotOf (T : Int) (k : Ky) (kd : Int) (f : Fl) (c : Int) : Int := xr (c / T % 64) (W7 k kd f 64 (c / (64 * T)) % 64)
def readC (T : Int) (r : Rg) (kd : Int) (f : Fl) (c : Int) : Option Int :=
 if c < 0 ∨ 256 * T ≤ c then none else
 match keyOf r (c / (64 * T)) with
 | none => none
 | some k => if cok T k kd f (slotOf T k kd f c) (c / (64 * T)) = c then some (slotOf T k kd f c) else none
theorem slotOf_bd (T : Int) (k : Ky) (kd : Int) (f : Fl) (c : Int) : 0 ≤ slotOf T k kd f c ∧ slotOf T k kd f c < 64 := by
 unfold slotOf
 exact xr_bd _ _ (by omega) (by omega)
theorem read_bd (T : Int) (r : Rg) (kd : Int) (f : Fl) (c s : Int) (h : readC T r kd f c = some s) : 0 ≤ s ∧ s < 64 := by
 unfold readC at h
 split at h
 ·cases h
 ·split at h
  ·cases h
  ·split at h
   ·injection h with h
    rw [← h]
    exact slotOf_bd _ _ _ _ _
   ·cases h
/-- Stamps that carry. -/
def putV (v c : Int) : Int := v / 256 % 4096 * 1048576 + c
def near8 (n : Int) : Int := n - n % 256
def backD (v n : Int) : Int := (v / 1048576 * 256 - near8 n) % 1048576
def backV (v n : Int) : Int := (near8 n + (if backD v n < 524288 then backD v n else backD v n - 1048576)) % 4294967296
end Go.Proofs.YteapnfdpkjbfhaaGreat
namespace Go.Proofs.YteapnfdpkjbfhaaGreat
set_option linter.unusedVariables false
set_option linter.unusedSimpArgs false
open Go.RowKit Go.ChangeShapes Go.WideShapes Go.ChangeAt
def shV (T : Int) : Value := if T = 4096 then .agg #[.int .u64 18, .int .u64 2, .int .u64 12, .int .u64 6, .int .u64 0, .int .u64 12] else .agg #[.int .u64 14, .int .u64 2, .int .u64 8, .int .u64 6, .int .u64 0, .int .u64 8]
theorem shV1 : shV 4096 = .agg #[.int .u64 18, .int .u64 2, .int .u64 12, .int .u64 6, .int .u64 0, .int .u64 12] := rfl
theorem shV2 : shV 256 = .agg #[.int .u64 14, .int .u64 2, .int .u64 8, .int .u64 6, .int .u64 0, .int .u64 8] := rfl
def ptV (e m t : Int) : Value := .agg #[.int .i64 e, .int .i64 m, .int .i64 t]
/-- A kind, and two to as many as its tag has bits. -/
def KT (kd T : Int) : Prop := (kd = 1 ∧ T = 4096) ∨ (kd = 2 ∧ T = 256)
def Fl.I (f : Fl) : Prop := I64 f.a ∧ I64 f.p ∧ I64 f.ta ∧ I64 f.tp
theorem seven_I {kd x e : Int} {f : Fl} (hf : f.I) (hk : I64 kd) (hx : I64 x) (he : I64 e) : IsI (fun j => [kd, f.a, f.p, f.ta, f.tp, x, e].getD j 0) := fun j => by
 obtain ⟨h1, h2, h3, h4⟩ := hf
 rcases j with _ | _ | _ | _ | _ | _ | _ | j
 ·exact hk
 ·exact h1
 ·exact h2
 ·exact h3
 ·exact h4
 ·exact hx
 ·exact he
 ·exact ⟨by simp, by simp⟩
theorem cutI (a wd v : Int) (w : World) (hw : wd = 2 ∨ wd = 6 ∨ wd = 8 ∨ wd = 12) :
 Calls Tryz.prog 147 #[.agg #[.int .u64 a, .int .u64 wd], .int .i64 v] w fun e w' => e = .returned (.int .i64 (v % 2 ^ wd.toNat)) ∧ Below w.heap.size w w' := by
 have h0 := mand3 v
 have h1 := mand63 v
 have h2 := mand255 v
 have h3 := mand4095 v
 rcases hw with rfl | rfl | rfl | rfl
 all_goals
  go_enter Tryz.func147, Tryz.ntmps147
  go_wp2_with fail
  go_ret
  refine ⟨rfl, ?_⟩
  repeat' (first | with_reducible exact Below.refl _ _ | with_reducible refine Below.drew ?_ | with_reducible refine Below.alloc ?_ ?_ _ | with_reducible refine Below.setCell ?_ ?_ _ | (simp; done) | (simp; omega))
theorem laidI (a wd v : Int) (w : World) (hf : (a = 18 ∧ wd = 2) ∨ (a = 14 ∧ wd = 2) ∨ (a = 12 ∧ wd = 6) ∨ (a = 8 ∧ wd = 6) ∨ (a = 0 ∧ wd = 12) ∨ (a = 0 ∧ wd = 8)) :
 Calls Tryz.prog 152 #[.agg #[.int .u64 a, .int .u64 wd], .int .i64 v] w fun e w' => e = .returned (.int .i64 (v % 2 ^ wd.toNat * 2 ^ a.toNat)) ∧ Below w.heap.size w w' := by
 have hw : wd = 2 ∨ wd = 6 ∨ wd = 8 ∨ wd = 12 := by omega
 have ha : 0 ≤ a := by omega
 have ha' : a ≤ 64 := by omega
 go_enter Tryz.func152, Tryz.ntmps152
 go_wp2_with fail
 have CK := Ce.made (w := w) (l := [.int .u64 a, .int .u64 wd]) (T := 178) (g := w.heap.size) rfl
 have B : Below w.heap.size w (w.alloc (.cells #[.int .u64 a, .int .u64 wd] 178)) := ((Below.refl _ _).alloc (Nat.le_refl _) (.cells #[.int .u64 a, .int .u64 wd] 178))
 obtain ⟨kK, qK, zK⟩ := CK
 have cK0 := qK 0 _ rfl
 have cK1 := qK 1 _ rfl
 clear qK zK
 generalize w.alloc (.cells #[.int .u64 a, .int .u64 wd] 178) = w1 at *
 generalize hK : w.heap.size = K at *
 go_region_held3 (fun w' => w'.cell? ⟨K, 0, none⟩ = some (.int .u64 a) ∧ w'.cell? ⟨K, 1, none⟩ = some (.int .u64 wd) ∧ K < w'.heap.size ∧ Below K w w')
  (first
   | (go_split_ands; refine ⟨?_, ?_, ?_, ?_⟩; exact (hb5.cell (p := ⟨K, 0, none⟩) (by assumption)).trans (by assumption); exact (hb5.cell (p := ⟨K, 1, none⟩) (by assumption)).trans (by assumption); exact Nat.lt_of_lt_of_le (by assumption) hb5.size; exact Below.trans (by assumption) (hb5.mono (by first | exact Nat.le_of_lt (by assumption) | exact Below.size (by assumption))))
   | (refine ⟨?_, ?_, ?_, ?_⟩; assumption; assumption; assumption; exact Below.drew (by assumption))
   | (go_split_ands; refine ⟨?_, ?_, ?_, ?_⟩; exact (World.cell?_alloc_lt _ _ ⟨K, 0, none⟩ (by assumption)).trans (by assumption); exact (World.cell?_alloc_lt _ _ ⟨K, 1, none⟩ (by assumption)).trans (by assumption); (simp; omega); exact Below.alloc (by assumption) (by first | exact Nat.le_of_lt (by assumption) | exact Below.size (by assumption)) _)
   | (go_split_ands; refine ⟨?_, ?_, ?_, ?_⟩; exact (World.cell?_alloc_lt _ _ ⟨K, 0, none⟩ (by assumption)).trans (by assumption); exact (World.cell?_alloc_lt _ _ ⟨K, 1, none⟩ (by assumption)).trans (by assumption); exact Nat.lt_of_lt_of_le (by assumption) (Below.drew (Below.alloc (Below.refl _ _) (Nat.le_refl _) _)).size; exact Below.drew (Below.alloc (by assumption) (Below.size (by assumption)) _))
   | (go_split_ands; refine ⟨?_, ?_, ?_, ?_⟩; (iterate 3 (assumption)); assumption)
   | go_keep)
  ((first
    | (go_at_call 147
       go_split_ands
       with_reducible refine (cutI a wd _ _ hw).mono ?_
       rintro e w5 ⟨rfl, hb5⟩)))
 all_goals
  go_split_ands
  go_wp2_with fail
  go_ret
  refine ⟨ret_i64 ?_, by first | assumption | (rw [hK]; assumption)⟩
  rcases hf with ⟨rfl, rfl⟩ | ⟨rfl, rfl⟩ | ⟨rfl, rfl⟩ | ⟨rfl, rfl⟩ | ⟨rfl, rfl⟩ | ⟨rfl, rfl⟩ <;> (rw [IntKind.wrap_i64]; simp; omega)
theorem ofI (a wd v : Int) (w : World) (hf : (a = 18 ∧ wd = 2) ∨ (a = 14 ∧ wd = 2) ∨ (a = 12 ∧ wd = 6) ∨ (a = 8 ∧ wd = 6) ∨ (a = 0 ∧ wd = 12) ∨ (a = 0 ∧ wd = 8)) :
 Calls Tryz.prog 163 #[.agg #[.int .u64 a, .int .u64 wd], .int .i64 v] w fun e w' => e = .returned (.int .i64 (v / 2 ^ a.toNat % 2 ^ wd.toNat)) ∧ Below w.heap.size w w' := by
 have hw : wd = 2 ∨ wd = 6 ∨ wd = 8 ∨ wd = 12 := by omega
 have ha : 0 ≤ a := by omega
 have ha' : a ≤ 64 := by omega
 go_enter Tryz.func163, Tryz.ntmps163
 go_wp2_with fail
 refine (cutI a wd _ _ hw).mono ?_
 rintro e w' ⟨rfl, hb⟩
 have hb0 := ((Below.refl w.heap.size w).alloc (Nat.le_refl _) _).trans (hb.mono (by simp))
 go_wp2_with fail
 go_ret
 exact ⟨rfl, hb0⟩
theorem shapeOf_any (kd T : Int) (w : World) (hk : KT kd T) :
 Calls Tryz.prog 119 #[.int .i64 kd] w fun e w' => e = .returned (shV T) ∧ Below w.heap.size w w' := by
 rcases hk with ⟨rfl, rfl⟩ | ⟨rfl, rfl⟩
 ·rw [shV1]
  go_enter Tryz.func119, Tryz.ntmps119
  go_wp2_with fail
  refine bodyPost_ret (by simp [results, Tryz.results119, go_sem]) rfl ⟨rfl, ?_⟩
  repeat' (first | with_reducible exact Below.refl _ _ | with_reducible refine Below.drew ?_ | with_reducible refine Below.alloc ?_ ?_ _ | with_reducible refine Below.setCell ?_ ?_ _ | (simp; done) | (simp; omega))
 ·rw [shV2]
  go_enter Tryz.func119, Tryz.ntmps119
  go_wp2_with fail
  refine bodyPost_ret (by simp [results, Tryz.results119, go_sem]) rfl ⟨rfl, ?_⟩
  repeat' (first | with_reducible exact Below.refl _ _ | with_reducible refine Below.drew ?_ | with_reducible refine Below.alloc ?_ ?_ _ | with_reducible refine Below.setCell ?_ ?_ _ | (simp; done) | (simp; omega))
theorem short_any (e : Int) (w : World) : Calls Tryz.prog 122 #[.int .i64 e] w fun e' w' => e' = .returned (.int .i64 (e % 4)) ∧ w = w' := by
 have h := mand3 e
 go_enter Tryz.func122, Tryz.ntmps122
 go_wp2
 go_ret
 exact ⟨rfl, rfl⟩
theorem beyond_any (T : Int) (w : World) (hT : T = 4096 ∨ T = 256) : Calls Tryz.prog 144 #[shV T] w fun e' w' => e' = .returned (.int .i64 (256 * T)) ∧ Below w.heap.size w w' := by
 rcases hT with rfl | rfl
 all_goals
  first | rw [shV1] | rw [shV2]
  go_enter Tryz.func144, Tryz.ntmps144
  go_wp2
  go_ret
  exact ⟨rfl, (Below.refl _ _).alloc (Nat.le_refl _) _⟩
end Go.Proofs.YteapnfdpkjbfhaaGreat
namespace Go.Proofs.YteapnfdpkjbfhaaGreat
set_option linter.unusedVariables false
set_option linter.unusedSimpArgs false
open Go.RowKit Go.ChangeShapes Go.WideShapes Go.ChangeAt
theorem tog1 (e m t : Int) (he : 0 ≤ e ∧ e < 4) (hm : 0 ≤ m ∧ m < 64) (ht : 0 ≤ t ∧ t < 4096) :
 bits .or .i64 (bits .or .i64 (e % 4 * 262144) (m % 64 * 4096)) (t % 4096) = e * (64 * 4096) + m * 4096 + t := by
 rw [show e % 4 = e from by omega, show m % 64 = m from by omega, show t % 4096 = t from by omega, or_join e (m * 4096) 262144 18 rfl (by omega) (by omega) (by omega) (by omega) (by omega),
  show e * 262144 + m * 4096 = (e * 64 + m) * 4096 from by omega, or_join (e * 64 + m) t 4096 12 rfl (by omega) (by omega) (by omega) (by omega) (by omega)]
 omega
theorem tog2 (e m t : Int) (he : 0 ≤ e ∧ e < 4) (hm : 0 ≤ m ∧ m < 64) (ht : 0 ≤ t ∧ t < 256) :
 bits .or .i64 (bits .or .i64 (e % 4 * 16384) (m % 64 * 256)) (t % 256) = e * (64 * 256) + m * 256 + t := by
 rw [show e % 4 = e from by omega, show m % 64 = m from by omega, show t % 256 = t from by omega, or_join e (m * 256) 16384 14 rfl (by omega) (by omega) (by omega) (by omega) (by omega),
  show e * 16384 + m * 256 = (e * 64 + m) * 256 from by omega, or_join (e * 64 + m) t 256 8 rfl (by omega) (by omega) (by omega) (by omega) (by omega)]
 omega
theorem together1 (e m t : Int) (he : 0 ≤ e ∧ e < 4) (hm : 0 ≤ m ∧ m < 64) (ht : 0 ≤ t ∧ t < 4096) (w : World) :
 Calls Tryz.prog 120 #[shV 4096, ptV e m t] w fun e' w' => e' = .returned (.int .i64 (e * (64 * 4096) + m * 4096 + t)) ∧ Below w.heap.size w w' := by
 have H := hid (tog1 e m t he hm ht)
 rw [shV1]
 unfold ptV
 clear he hm ht
 go_enter Tryz.func120, Tryz.ntmps120
 go_wp2_with fail
 have CK := Ce.made (w := w) (l := [.int .u64 18, .int .u64 2, .int .u64 12, .int .u64 6, .int .u64 0, .int .u64 12]) (T := 180) (g := w.heap.size) rfl
 have CK := CK.alloc (.cells #[.int .i64 e, .int .i64 m, .int .i64 t] 184)
 have CL := Ce.made (w := (w.alloc (.cells #[.int .u64 18, .int .u64 2, .int .u64 12, .int .u64 6, .int .u64 0, .int .u64 12] 180))) (l := [.int .i64 e, .int .i64 m, .int .i64 t]) (T := 184) (g := w.heap.size + 1) (by simp)
 have B : Below w.heap.size w ((w.alloc (.cells #[.int .u64 18, .int .u64 2, .int .u64 12, .int .u64 6, .int .u64 0, .int .u64 12] 180)).alloc (.cells #[.int .i64 e, .int .i64 m, .int .i64 t] 184)) := (((Below.refl _ _).alloc (Nat.le_refl _) (.cells #[.int .u64 18, .int .u64 2, .int .u64 12, .int .u64 6, .int .u64 0, .int .u64 12] 180)).alloc (by first | (simp; done) | (have := Nat.le_refl 0; simp at this ⊢; omega)) (.cells #[.int .i64 e, .int .i64 m, .int .i64 t] 184))
 obtain ⟨kK, qK, zK⟩ := CK
 have cK0 := qK 0 _ rfl
 have cK1 := qK 1 _ rfl
 have cK2 := qK 2 _ rfl
 have cK3 := qK 3 _ rfl
 have cK4 := qK 4 _ rfl
 have cK5 := qK 5 _ rfl
 clear qK zK
 obtain ⟨kL, qL, zL⟩ := CL
 have cL0 := qL 0 _ rfl
 have cL1 := qL 1 _ rfl
 have cL2 := qL 2 _ rfl
 clear qL zL
 generalize (w.alloc (.cells #[.int .u64 18, .int .u64 2, .int .u64 12, .int .u64 6, .int .u64 0, .int .u64 12] 180)).alloc (.cells #[.int .i64 e, .int .i64 m, .int .i64 t] 184) = w1 at *
 generalize w.heap.size + 1 = L at *
 generalize hK : w.heap.size = K at *
 go_region_held3 (fun w' => w'.cell? ⟨K, 0, none⟩ = some (.int .u64 18) ∧ w'.cell? ⟨K, 1, none⟩ = some (.int .u64 2) ∧ w'.cell? ⟨K, 2, none⟩ = some (.int .u64 12) ∧ w'.cell? ⟨K, 3, none⟩ = some (.int .u64 6) ∧ w'.cell? ⟨K, 4, none⟩ = some (.int .u64 0) ∧ w'.cell? ⟨K, 5, none⟩ = some (.int .u64 12) ∧ w'.cell? ⟨L, 0, none⟩ = some (.int .i64 e) ∧ w'.cell? ⟨L, 1, none⟩ = some (.int .i64 m) ∧ w'.cell? ⟨L, 2, none⟩ = some (.int .i64 t) ∧ K < w'.heap.size ∧ L < w'.heap.size ∧ Below K w w')
  (first
   | (go_split_ands; refine ⟨?_, ?_, ?_, ?_, ?_, ?_, ?_, ?_, ?_, ?_, ?_, ?_⟩; (iterate 9 (exact (hb5.cell (by assumption)).trans (by assumption))); exact Nat.lt_of_lt_of_le (by assumption) hb5.size; exact Nat.lt_of_lt_of_le (by assumption) hb5.size; exact Below.trans (by assumption) (hb5.mono (by first | exact Nat.le_of_lt (by assumption) | exact Below.size (by assumption))))
   | (refine ⟨?_, ?_, ?_, ?_, ?_, ?_, ?_, ?_, ?_, ?_, ?_, ?_⟩; (iterate 11 (assumption)); exact Below.drew (by assumption))
   | (go_split_ands; refine ⟨?_, ?_, ?_, ?_, ?_, ?_, ?_, ?_, ?_, ?_, ?_, ?_⟩; (iterate 9 (exact (World.cell?_alloc_lt _ _ _ (by assumption)).trans (by assumption))); (simp; omega); (simp; omega); exact Below.alloc (by assumption) (by first | exact Nat.le_of_lt (by assumption) | exact Below.size (by assumption)) _)
   | (go_split_ands; refine ⟨?_, ?_, ?_, ?_, ?_, ?_, ?_, ?_, ?_, ?_, ?_, ?_⟩; (iterate 9 (exact (World.cell?_alloc_lt _ _ _ (by assumption)).trans (by assumption))); exact Nat.lt_of_lt_of_le (by assumption) (Below.drew (Below.alloc (Below.refl _ _) (Nat.le_refl _) _)).size; exact Nat.lt_of_lt_of_le (by assumption) (Below.drew (Below.alloc (Below.refl _ _) (Nat.le_refl _) _)).size; exact Below.drew (Below.alloc (by assumption) (Below.size (by assumption)) _))
   | (go_split_ands; refine ⟨?_, ?_, ?_, ?_, ?_, ?_, ?_, ?_, ?_, ?_, ?_, ?_⟩; (iterate 11 (assumption)); assumption)
   | go_keep)
  ((first
    | (go_at_call 152
       go_split_ands
       with_reducible refine (laidI 18 2 _ _ ?_).mono ?_
       ·decide
       rintro e w5 ⟨rfl, hb5⟩)
    | (go_at_call 152
       go_split_ands
       with_reducible refine (laidI 12 6 _ _ ?_).mono ?_
       ·decide
       rintro e w5 ⟨rfl, hb5⟩)
    | (go_at_call 152
       go_split_ands
       with_reducible refine (laidI 0 12 _ _ ?_).mono ?_
       ·decide
       rintro e w5 ⟨rfl, hb5⟩)))
 all_goals
  go_split_ands
  go_wp2_with fail
  go_ret
  exact ⟨ret_i64 H.out, by first | assumption | (rw [hK]; assumption)⟩
theorem together2 (e m t : Int) (he : 0 ≤ e ∧ e < 4) (hm : 0 ≤ m ∧ m < 64) (ht : 0 ≤ t ∧ t < 256) (w : World) :
 Calls Tryz.prog 120 #[shV 256, ptV e m t] w fun e' w' => e' = .returned (.int .i64 (e * (64 * 256) + m * 256 + t)) ∧ Below w.heap.size w w' := by
 have H := hid (tog2 e m t he hm ht)
 rw [shV2]
 unfold ptV
 clear he hm ht
 go_enter Tryz.func120, Tryz.ntmps120
 go_wp2_with fail
 have CK := Ce.made (w := w) (l := [.int .u64 14, .int .u64 2, .int .u64 8, .int .u64 6, .int .u64 0, .int .u64 8]) (T := 180) (g := w.heap.size) rfl
 have CK := CK.alloc (.cells #[.int .i64 e, .int .i64 m, .int .i64 t] 184)
 have CL := Ce.made (w := (w.alloc (.cells #[.int .u64 14, .int .u64 2, .int .u64 8, .int .u64 6, .int .u64 0, .int .u64 8] 180))) (l := [.int .i64 e, .int .i64 m, .int .i64 t]) (T := 184) (g := w.heap.size + 1) (by simp)
 have B : Below w.heap.size w ((w.alloc (.cells #[.int .u64 14, .int .u64 2, .int .u64 8, .int .u64 6, .int .u64 0, .int .u64 8] 180)).alloc (.cells #[.int .i64 e, .int .i64 m, .int .i64 t] 184)) := (((Below.refl _ _).alloc (Nat.le_refl _) (.cells #[.int .u64 14, .int .u64 2, .int .u64 8, .int .u64 6, .int .u64 0, .int .u64 8] 180)).alloc (by first | (simp; done) | (have := Nat.le_refl 0; simp at this ⊢; omega)) (.cells #[.int .i64 e, .int .i64 m, .int .i64 t] 184))
 obtain ⟨kK, qK, zK⟩ := CK
 have cK0 := qK 0 _ rfl
 have cK1 := qK 1 _ rfl
 have cK2 := qK 2 _ rfl
 have cK3 := qK 3 _ rfl
 have cK4 := qK 4 _ rfl
 have cK5 := qK 5 _ rfl
 clear qK zK
 obtain ⟨kL, qL, zL⟩ := CL
 have cL0 := qL 0 _ rfl
 have cL1 := qL 1 _ rfl
 have cL2 := qL 2 _ rfl
 clear qL zL
 generalize (w.alloc (.cells #[.int .u64 14, .int .u64 2, .int .u64 8, .int .u64 6, .int .u64 0, .int .u64 8] 180)).alloc (.cells #[.int .i64 e, .int .i64 m, .int .i64 t] 184) = w1 at *
 generalize w.heap.size + 1 = L at *
 generalize hK : w.heap.size = K at *
 go_region_held3 (fun w' => w'.cell? ⟨K, 0, none⟩ = some (.int .u64 14) ∧ w'.cell? ⟨K, 1, none⟩ = some (.int .u64 2) ∧ w'.cell? ⟨K, 2, none⟩ = some (.int .u64 8) ∧ w'.cell? ⟨K, 3, none⟩ = some (.int .u64 6) ∧ w'.cell? ⟨K, 4, none⟩ = some (.int .u64 0) ∧ w'.cell? ⟨K, 5, none⟩ = some (.int .u64 8) ∧ w'.cell? ⟨L, 0, none⟩ = some (.int .i64 e) ∧ w'.cell? ⟨L, 1, none⟩ = some (.int .i64 m) ∧ w'.cell? ⟨L, 2, none⟩ = some (.int .i64 t) ∧ K < w'.heap.size ∧ L < w'.heap.size ∧ Below K w w')
  (first
   | (go_split_ands; refine ⟨?_, ?_, ?_, ?_, ?_, ?_, ?_, ?_, ?_, ?_, ?_, ?_⟩; (iterate 9 (exact (hb5.cell (by assumption)).trans (by assumption))); exact Nat.lt_of_lt_of_le (by assumption) hb5.size; exact Nat.lt_of_lt_of_le (by assumption) hb5.size; exact Below.trans (by assumption) (hb5.mono (by first | exact Nat.le_of_lt (by assumption) | exact Below.size (by assumption))))
   | (refine ⟨?_, ?_, ?_, ?_, ?_, ?_, ?_, ?_, ?_, ?_, ?_, ?_⟩; (iterate 11 (assumption)); exact Below.drew (by assumption))
   | (go_split_ands; refine ⟨?_, ?_, ?_, ?_, ?_, ?_, ?_, ?_, ?_, ?_, ?_, ?_⟩; (iterate 9 (exact (World.cell?_alloc_lt _ _ _ (by assumption)).trans (by assumption))); (simp; omega); (simp; omega); exact Below.alloc (by assumption) (by first | exact Nat.le_of_lt (by assumption) | exact Below.size (by assumption)) _)
   | (go_split_ands; refine ⟨?_, ?_, ?_, ?_, ?_, ?_, ?_, ?_, ?_, ?_, ?_, ?_⟩; (iterate 9 (exact (World.cell?_alloc_lt _ _ _ (by assumption)).trans (by assumption))); exact Nat.lt_of_lt_of_le (by assumption) (Below.drew (Below.alloc (Below.refl _ _) (Nat.le_refl _) _)).size; exact Nat.lt_of_lt_of_le (by assumption) (Below.drew (Below.alloc (Below.refl _ _) (Nat.le_refl _) _)).size; exact Below.drew (Below.alloc (by assumption) (Below.size (by assumption)) _))
   | (go_split_ands; refine ⟨?_, ?_, ?_, ?_, ?_, ?_, ?_, ?_, ?_, ?_, ?_, ?_⟩; (iterate 11 (assumption)); assumption)
   | go_keep)
  ((first
    | (go_at_call 152
       go_split_ands
       with_reducible refine (laidI 14 2 _ _ ?_).mono ?_
       ·decide
       rintro e w5 ⟨rfl, hb5⟩)
    | (go_at_call 152
       go_split_ands
       with_reducible refine (laidI 8 6 _ _ ?_).mono ?_
       ·decide
       rintro e w5 ⟨rfl, hb5⟩)
    | (go_at_call 152
       go_split_ands
       with_reducible refine (laidI 0 8 _ _ ?_).mono ?_
       ·decide
       rintro e w5 ⟨rfl, hb5⟩)))
 all_goals
  go_split_ands
  go_wp2_with fail
  go_ret
  exact ⟨ret_i64 H.out, by first | assumption | (rw [hK]; assumption)⟩
end Go.Proofs.YteapnfdpkjbfhaaGreat
namespace Go.Proofs.YteapnfdpkjbfhaaGreat
set_option linter.unusedVariables false
set_option linter.unusedSimpArgs false
open Go.RowKit Go.ChangeShapes Go.WideShapes Go.ChangeAt
theorem w64_mod (x : Int) (j : Nat) (hj : j ≤ 64) : wrap64 x % 2 ^ j = x % 2 ^ j := by
 rw [← IntWalk.i64_left]
 exact wrap_mod x j hj
theorem Ce.sl {w : World} {b : Nat} (l : List Int) (h : Ce w b (l.map (Value.int .i64))) : Is w (some ⟨b, 0, none⟩) l.length (fun j => l.getD j 0) := by
 refine Sl.mk h.1 fun j hj => ?_
 rw [Nat.zero_add]
 exact h.2.1 j _ (by simp [List.getD, hj])
theorem mask_any (k : Ky) (kd : Int) (f : Fl) (e : Int) (hf : f.I) (hk : I64 kd) (he : I64 e) (w : World) :
 Calls Tryz.prog 148 #[kyV k, .int .i64 kd, flV f, .int .i64 e] w fun e' w' => e' = .returned (.int .i64 (wrap64 (W7 k kd f 64 e))) ∧ Below w.heap.size w w' := by
 have hI := seven_I hf hk (x := 64) ⟨by omega, by omega⟩ he
 unfold kyV flV
 go_enter Tryz.func148, Tryz.ntmps148
 go_wp2_with fail
 refine (re_u64 (words_any k.a k.b _ 7 7 _ _ (row_at .i64 [kd, f.a, f.p, f.ta, f.tp, 64, e] (by simp)) hI (by omega)) (show _ = W7 k kd f 64 e from rfl)).mono ?_
 rintro e' w' ⟨rfl, hb⟩
 have hb0 := ((((Below.refl w.heap.size w).alloc (Nat.le_refl _) _).alloc (by simp) _).alloc (by simp; omega) _).trans (hb.mono (by simp; omega))
 go_wp2_with fail
 go_ret
 exact ⟨rfl, hb0⟩
set_option maxHeartbeats 8000000 in
theorem made1 (k : Ky) (kd : Int) (f : Fl) (x e : Int) (hf : f.I) (hk : I64 kd) (hx : I64 x) (he : I64 e) (w : World) :
 Calls Tryz.prog 121 #[shV 4096, kyV k, .int .i64 kd, flV f, .int .i64 x, .int .i64 e] w fun e' w' => e' = .returned (ptV e (xr (x % 64) (W7 k kd f 64 e % 64)) (W7 k kd f x e % 4096)) ∧ Below w.heap.size w w' := by
 have hI := seven_I hf hk hx he
 rw [shV1]
 unfold kyV flV ptV
 go_enter Tryz.func121, Tryz.ntmps121
 go_wp2_with fail
 have dS : w.heap.size + 1 + 1 + 1 ≠ w.heap.size := by omega
 have dK : w.heap.size + 1 + 1 + 1 ≠ w.heap.size + 1 := by omega
 have dF : w.heap.size + 1 + 1 + 1 ≠ w.heap.size + 1 + 1 := by omega
 have lR : w.heap.size ≤ w.heap.size + 1 + 1 + 1 := by omega
 have CS := Ce.made (w := w) (l := [.int .u64 18, .int .u64 2, .int .u64 12, .int .u64 6, .int .u64 0, .int .u64 12]) (T := 180) (g := w.heap.size) rfl
 replace CS := CS.alloc (.cells #[.int .u64 k.a, .int .u64 k.b] 29)
 have CK := Ce.made (w := (w.alloc (.cells #[.int .u64 18, .int .u64 2, .int .u64 12, .int .u64 6, .int .u64 0, .int .u64 12] 180))) (l := [.int .u64 k.a, .int .u64 k.b]) (T := 29) (g := w.heap.size + 1) (by simp)
 replace CS := CS.alloc (.cells #[.int .i64 f.a, .int .i64 f.p, .int .i64 f.ta, .int .i64 f.tp] 77)
 replace CK := CK.alloc (.cells #[.int .i64 f.a, .int .i64 f.p, .int .i64 f.ta, .int .i64 f.tp] 77)
 have CF := Ce.made (w := ((w.alloc (.cells #[.int .u64 18, .int .u64 2, .int .u64 12, .int .u64 6, .int .u64 0, .int .u64 12] 180)).alloc (.cells #[.int .u64 k.a, .int .u64 k.b] 29))) (l := [.int .i64 f.a, .int .i64 f.p, .int .i64 f.ta, .int .i64 f.tp]) (T := 77) (g := w.heap.size + 1 + 1) (by simp)
 replace CS := CS.alloc (.cells #[.int .i64 0, .int .i64 0, .int .i64 0] 184)
 replace CK := CK.alloc (.cells #[.int .i64 0, .int .i64 0, .int .i64 0] 184)
 replace CF := CF.alloc (.cells #[.int .i64 0, .int .i64 0, .int .i64 0] 184)
 have CR := Ce.made (w := (((w.alloc (.cells #[.int .u64 18, .int .u64 2, .int .u64 12, .int .u64 6, .int .u64 0, .int .u64 12] 180)).alloc (.cells #[.int .u64 k.a, .int .u64 k.b] 29)).alloc (.cells #[.int .i64 f.a, .int .i64 f.p, .int .i64 f.ta, .int .i64 f.tp] 77))) (l := [.int .i64 0, .int .i64 0, .int .i64 0]) (T := 184) (g := w.heap.size + 1 + 1 + 1) (by simp)
 replace CS := CS.alloc (.cells #[.int .i64 kd, .int .i64 f.a, .int .i64 f.p, .int .i64 f.ta, .int .i64 f.tp, .int .i64 x, .int .i64 e] 3)
 replace CK := CK.alloc (.cells #[.int .i64 kd, .int .i64 f.a, .int .i64 f.p, .int .i64 f.ta, .int .i64 f.tp, .int .i64 x, .int .i64 e] 3)
 replace CF := CF.alloc (.cells #[.int .i64 kd, .int .i64 f.a, .int .i64 f.p, .int .i64 f.ta, .int .i64 f.tp, .int .i64 x, .int .i64 e] 3)
 replace CR := CR.alloc (.cells #[.int .i64 kd, .int .i64 f.a, .int .i64 f.p, .int .i64 f.ta, .int .i64 f.tp, .int .i64 x, .int .i64 e] 3)
 have CX := Ce.made (w := ((((w.alloc (.cells #[.int .u64 18, .int .u64 2, .int .u64 12, .int .u64 6, .int .u64 0, .int .u64 12] 180)).alloc (.cells #[.int .u64 k.a, .int .u64 k.b] 29)).alloc (.cells #[.int .i64 f.a, .int .i64 f.p, .int .i64 f.ta, .int .i64 f.tp] 77)).alloc (.cells #[.int .i64 0, .int .i64 0, .int .i64 0] 184))) (l := [.int .i64 kd, .int .i64 f.a, .int .i64 f.p, .int .i64 f.ta, .int .i64 f.tp, .int .i64 x, .int .i64 e]) (T := 3) (g := w.heap.size + 1 + 1 + 1 + 1) (by simp)
 have B : Below w.heap.size w (((((w.alloc (.cells #[.int .u64 18, .int .u64 2, .int .u64 12, .int .u64 6, .int .u64 0, .int .u64 12] 180)).alloc (.cells #[.int .u64 k.a, .int .u64 k.b] 29)).alloc (.cells #[.int .i64 f.a, .int .i64 f.p, .int .i64 f.ta, .int .i64 f.tp] 77)).alloc (.cells #[.int .i64 0, .int .i64 0, .int .i64 0] 184)).alloc (.cells #[.int .i64 kd, .int .i64 f.a, .int .i64 f.p, .int .i64 f.ta, .int .i64 f.tp, .int .i64 x, .int .i64 e] 3)) := ((((((Below.refl w.heap.size w).alloc (by first | exact Nat.le_refl _ | (simp; done) | (simp; omega)) (.cells #[.int .u64 18, .int .u64 2, .int .u64 12, .int .u64 6, .int .u64 0, .int .u64 12] 180)).alloc (by first | exact Nat.le_refl _ | (simp; done) | (simp; omega)) (.cells #[.int .u64 k.a, .int .u64 k.b] 29)).alloc (by first | exact Nat.le_refl _ | (simp; done) | (simp; omega)) (.cells #[.int .i64 f.a, .int .i64 f.p, .int .i64 f.ta, .int .i64 f.tp] 77)).alloc (by first | exact Nat.le_refl _ | (simp; done) | (simp; omega)) (.cells #[.int .i64 0, .int .i64 0, .int .i64 0] 184)).alloc (by first | exact Nat.le_refl _ | (simp; done) | (simp; omega)) (.cells #[.int .i64 kd, .int .i64 f.a, .int .i64 f.p, .int .i64 f.ta, .int .i64 f.tp, .int .i64 x, .int .i64 e] 3))
 generalize ((((w.alloc (.cells #[.int .u64 18, .int .u64 2, .int .u64 12, .int .u64 6, .int .u64 0, .int .u64 12] 180)).alloc (.cells #[.int .u64 k.a, .int .u64 k.b] 29)).alloc (.cells #[.int .i64 f.a, .int .i64 f.p, .int .i64 f.ta, .int .i64 f.tp] 77)).alloc (.cells #[.int .i64 0, .int .i64 0, .int .i64 0] 184)).alloc (.cells #[.int .i64 kd, .int .i64 f.a, .int .i64 f.p, .int .i64 f.ta, .int .i64 f.tp, .int .i64 x, .int .i64 e] 3) = w1 at *
 generalize w.heap.size + 1 + 1 + 1 + 1 = X at *
 generalize w.heap.size + 1 + 1 + 1 = R at *
 generalize w.heap.size + 1 + 1 = F at *
 generalize w.heap.size + 1 = K at *
 generalize hK : w.heap.size = S at *
 refine (re_u64 (words_any k.a k.b (some ⟨X, 0, none⟩) 7 7 _ w1 (Ce.sl [kd, f.a, f.p, f.ta, f.tp, x, e] CX) hI (by omega)) (show _ = W7 k kd f x e from rfl)).mono ?_
 rintro e' w2 ⟨rfl, hb⟩
 replace B := B.trans (hb.mono (Nat.le_of_lt CS.1))
 replace CS := CS.below hb
 replace CK := CK.below hb
 replace CF := CF.below hb
 replace CR := CR.below hb
 clear CX hb
 obtain ⟨kS, qS, zS⟩ := CS
 have cS0 := qS 0 _ rfl
 have cS1 := qS 1 _ rfl
 have cS2 := qS 2 _ rfl
 have cS3 := qS 3 _ rfl
 have cS4 := qS 4 _ rfl
 have cS5 := qS 5 _ rfl
 clear qS zS
 obtain ⟨kK, qK, zK⟩ := CK
 have cK0 := qK 0 _ rfl
 have cK1 := qK 1 _ rfl
 clear qK zK
 obtain ⟨kF, qF, zF⟩ := CF
 have cF0 := qF 0 _ rfl
 have cF1 := qF 1 _ rfl
 have cF2 := qF 2 _ rfl
 have cF3 := qF 3 _ rfl
 clear qF zF
 obtain ⟨kR, qR, zR⟩ := CR
 have cR0 := qR 0 _ rfl
 have cR1 := qR 1 _ rfl
 have cR2 := qR 2 _ rfl
 have zR0 := zR 0
 have zR1 := zR 1
 have zR2 := zR 2
 clear qR zR
 have hx : Hid (bits .xor .i64 x (wrap64 (W7 k kd f 64 e)) % 64 = xr (x % 64) (W7 k kd f 64 e % 64)) := by
  unfold Hid
  rw [xor64, show wrap64 (W7 k kd f 64 e) % 64 = W7 k kd f 64 e % 64 from w64_mod _ 6 (by omega)]
 have hy : Hid (IntKind.i64.wrap (W7 k kd f x e) % 4096 = W7 k kd f x e % 4096) := wrap_mod _ 12 (by omega)
 have M := mask_any k kd f e hf hk he
 unfold kyV flV at M
 replace M := hid M
 go_wp2_with fail
 replace cR0 := cv_of cR0
 replace cR1 := cv_of cR1
 replace cR2 := cv_of cR2
 go_region_held3 (fun w' => w'.cell? ⟨S, 0, none⟩ = some (.int .u64 18) ∧ w'.cell? ⟨S, 1, none⟩ = some (.int .u64 2) ∧ w'.cell? ⟨S, 2, none⟩ = some (.int .u64 12) ∧ w'.cell? ⟨S, 3, none⟩ = some (.int .u64 6) ∧ w'.cell? ⟨S, 4, none⟩ = some (.int .u64 0) ∧ w'.cell? ⟨S, 5, none⟩ = some (.int .u64 12) ∧ w'.cell? ⟨K, 0, none⟩ = some (.int .u64 k.a) ∧ w'.cell? ⟨K, 1, none⟩ = some (.int .u64 k.b) ∧ w'.cell? ⟨F, 0, none⟩ = some (.int .i64 f.a) ∧ w'.cell? ⟨F, 1, none⟩ = some (.int .i64 f.p) ∧ w'.cell? ⟨F, 2, none⟩ = some (.int .i64 f.ta) ∧ w'.cell? ⟨F, 3, none⟩ = some (.int .i64 f.tp) ∧ S < w'.heap.size ∧ K < w'.heap.size ∧ F < w'.heap.size ∧ R < w'.heap.size ∧ w'.cell? ⟨R, 0, none⟩ = some (cv w' R 0) ∧ w'.cell? ⟨R, 1, none⟩ = some (cv w' R 1) ∧ w'.cell? ⟨R, 2, none⟩ = some (cv w' R 2) ∧ w'.frozen? ⟨R, 0, none⟩ = false ∧ w'.frozen? ⟨R, 1, none⟩ = false ∧ w'.frozen? ⟨R, 2, none⟩ = false ∧ Below S w w')
  (first
   | (go_split_ands; refine ⟨?_, ?_, ?_, ?_, ?_, ?_, ?_, ?_, ?_, ?_, ?_, ?_, ?_, ?_, ?_, ?_, ?_, ?_, ?_, ?_, ?_, ?_, ?_⟩; with_reducible exact ((World.cell?_setCell_far _ _ _ _ dS).trans ((World.cell?_setCell_far _ _ _ _ dS).trans ((World.cell?_setCell_far _ _ _ _ dS).trans (by assumption)))); with_reducible exact ((World.cell?_setCell_far _ _ _ _ dS).trans ((World.cell?_setCell_far _ _ _ _ dS).trans ((World.cell?_setCell_far _ _ _ _ dS).trans (by assumption)))); with_reducible exact ((World.cell?_setCell_far _ _ _ _ dS).trans ((World.cell?_setCell_far _ _ _ _ dS).trans ((World.cell?_setCell_far _ _ _ _ dS).trans (by assumption)))); with_reducible exact ((World.cell?_setCell_far _ _ _ _ dS).trans ((World.cell?_setCell_far _ _ _ _ dS).trans ((World.cell?_setCell_far _ _ _ _ dS).trans (by assumption)))); with_reducible exact ((World.cell?_setCell_far _ _ _ _ dS).trans ((World.cell?_setCell_far _ _ _ _ dS).trans ((World.cell?_setCell_far _ _ _ _ dS).trans (by assumption)))); with_reducible exact ((World.cell?_setCell_far _ _ _ _ dS).trans ((World.cell?_setCell_far _ _ _ _ dS).trans ((World.cell?_setCell_far _ _ _ _ dS).trans (by assumption)))); with_reducible exact ((World.cell?_setCell_far _ _ _ _ dK).trans ((World.cell?_setCell_far _ _ _ _ dK).trans ((World.cell?_setCell_far _ _ _ _ dK).trans (by assumption)))); with_reducible exact ((World.cell?_setCell_far _ _ _ _ dK).trans ((World.cell?_setCell_far _ _ _ _ dK).trans ((World.cell?_setCell_far _ _ _ _ dK).trans (by assumption)))); with_reducible exact ((World.cell?_setCell_far _ _ _ _ dF).trans ((World.cell?_setCell_far _ _ _ _ dF).trans ((World.cell?_setCell_far _ _ _ _ dF).trans (by assumption)))); with_reducible exact ((World.cell?_setCell_far _ _ _ _ dF).trans ((World.cell?_setCell_far _ _ _ _ dF).trans ((World.cell?_setCell_far _ _ _ _ dF).trans (by assumption)))); with_reducible exact ((World.cell?_setCell_far _ _ _ _ dF).trans ((World.cell?_setCell_far _ _ _ _ dF).trans ((World.cell?_setCell_far _ _ _ _ dF).trans (by assumption)))); with_reducible exact ((World.cell?_setCell_far _ _ _ _ dF).trans ((World.cell?_setCell_far _ _ _ _ dF).trans ((World.cell?_setCell_far _ _ _ _ dF).trans (by assumption)))); with_reducible exact Nat.lt_of_lt_of_le (by assumption) (Below.setCell (Below.setCell (Below.setCell (Below.refl 0 _) (Nat.zero_le _) _) (Nat.zero_le _) _) (Nat.zero_le _) _).size; with_reducible exact Nat.lt_of_lt_of_le (by assumption) (Below.setCell (Below.setCell (Below.setCell (Below.refl 0 _) (Nat.zero_le _) _) (Nat.zero_le _) _) (Nat.zero_le _) _).size; with_reducible exact Nat.lt_of_lt_of_le (by assumption) (Below.setCell (Below.setCell (Below.setCell (Below.refl 0 _) (Nat.zero_le _) _) (Nat.zero_le _) _) (Nat.zero_le _) _).size; with_reducible exact Nat.lt_of_lt_of_le (by assumption) (Below.setCell (Below.setCell (Below.setCell (Below.refl 0 _) (Nat.zero_le _) _) (Nat.zero_le _) _) (Nat.zero_le _) _).size; with_reducible exact (cv_set (cv_set (cv_set (by assumption)))); with_reducible exact (cv_set (cv_set (cv_set (by assumption)))); with_reducible exact (cv_set (cv_set (cv_set (by assumption)))); (simp only [World.frozen?_setCell]; assumption); (simp only [World.frozen?_setCell]; assumption); (simp only [World.frozen?_setCell]; assumption); with_reducible exact (Below.setCell (Below.setCell (Below.setCell (by assumption) lR _) lR _) lR _))
   | (go_split_ands; refine ⟨?_, ?_, ?_, ?_, ?_, ?_, ?_, ?_, ?_, ?_, ?_, ?_, ?_, ?_, ?_, ?_, ?_, ?_, ?_, ?_, ?_, ?_, ?_⟩; (iterate 12 (exact (hb5.cell (by assumption)).trans (by assumption))); (iterate 4 (exact Nat.lt_of_lt_of_le (by assumption) hb5.size)); (iterate 3 (exact cv_of ((hb5.cell (by assumption)).trans (by assumption)))); (iterate 3 (exact (World.frozen?_of_block (a := _) (hb5.block R (by assumption))).trans (by assumption))); exact Below.trans (by assumption) (hb5.mono (by first | exact Nat.le_of_lt (by assumption) | exact Below.size (by assumption))))
   | (refine ⟨?_, ?_, ?_, ?_, ?_, ?_, ?_, ?_, ?_, ?_, ?_, ?_, ?_, ?_, ?_, ?_, ?_, ?_, ?_, ?_, ?_, ?_, ?_⟩; (iterate 22 (assumption)); exact Below.drew (by assumption))
   | (go_split_ands; refine ⟨?_, ?_, ?_, ?_, ?_, ?_, ?_, ?_, ?_, ?_, ?_, ?_, ?_, ?_, ?_, ?_, ?_, ?_, ?_, ?_, ?_, ?_, ?_⟩; (iterate 12 (exact (World.cell?_alloc_lt _ _ _ (by assumption)).trans (by assumption))); (simp; omega); (simp; omega); (simp; omega); (simp; omega); (iterate 3 (exact cv_of ((World.cell?_alloc_lt _ _ _ (by assumption)).trans (by assumption)))); (iterate 3 (exact (World.frozen?_of_block (a := _) (((Below.refl _ _).alloc (Nat.le_refl _) _).block R (by assumption))).trans (by assumption))); exact Below.alloc (by assumption) (by first | exact Nat.le_of_lt (by assumption) | exact Below.size (by assumption)) _)
   | (go_split_ands; refine ⟨?_, ?_, ?_, ?_, ?_, ?_, ?_, ?_, ?_, ?_, ?_, ?_, ?_, ?_, ?_, ?_, ?_, ?_, ?_, ?_, ?_, ?_, ?_⟩; (iterate 22 (assumption)); assumption)
   | go_keep)
  ((first
    | (go_at_call 148
       go_split_ands
       with_reducible refine (M.out _).mono ?_
       rintro e5 w5 ⟨rfl, hb5⟩)
    | (go_at_call 147
       go_split_ands
       with_reducible refine (cutI 12 6 _ _ ?_).mono ?_
       ·decide
       rintro e5 w5 ⟨rfl, hb5⟩)
    | (go_at_call 147
       go_split_ands
       with_reducible refine (cutI 0 12 _ _ ?_).mono ?_
       ·decide
       rintro e5 w5 ⟨rfl, hb5⟩)))
 all_goals
  go_split_ands
  go_wp2_with fail
  have T := set3 (R := R) (by assumption) (by assumption) (by assumption)
  obtain ⟨t0, t1, t2⟩ := T
  refine at_world (fun w9 => w9.cell? ⟨R, 0, none⟩ = some (.int .i64 e) ∧ w9.cell? ⟨R, 1, none⟩ = some (.int .i64 (xr (x % 64) (W7 k kd f 64 e % 64))) ∧ w9.cell? ⟨R, 2, none⟩ = some (.int .i64 (W7 k kd f x e % 4096)) ∧ Below S w w9) ⟨t0, t1.trans (by rw [hx.out]), t2.trans (by rw [hy.out]), by assumption⟩ ?_
  clear t0 t1 t2
  rintro w9 ⟨t0, t1, t2, hb9⟩
  refine bodyPost_ret (v := .agg #[.int .i64 e, .int .i64 (xr (x % 64) (W7 k kd f 64 e % 64)), .int .i64 (W7 k kd f x e % 4096)]) (by simp [results, Tryz.results121, go_sem, t0, t1, t2]) rfl ⟨rfl, ?_⟩
  rw [hK]
  exact hb9
set_option maxHeartbeats 8000000 in
theorem made2 (k : Ky) (kd : Int) (f : Fl) (x e : Int) (hf : f.I) (hk : I64 kd) (hx : I64 x) (he : I64 e) (w : World) :
 Calls Tryz.prog 121 #[shV 256, kyV k, .int .i64 kd, flV f, .int .i64 x, .int .i64 e] w fun e' w' => e' = .returned (ptV e (xr (x % 64) (W7 k kd f 64 e % 64)) (W7 k kd f x e % 256)) ∧ Below w.heap.size w w' := by
 have hI := seven_I hf hk hx he
 rw [shV2]
 unfold kyV flV ptV
 go_enter Tryz.func121, Tryz.ntmps121
 go_wp2_with fail
 have dS : w.heap.size + 1 + 1 + 1 ≠ w.heap.size := by omega
 have dK : w.heap.size + 1 + 1 + 1 ≠ w.heap.size + 1 := by omega
 have dF : w.heap.size + 1 + 1 + 1 ≠ w.heap.size + 1 + 1 := by omega
 have lR : w.heap.size ≤ w.heap.size + 1 + 1 + 1 := by omega
 have CS := Ce.made (w := w) (l := [.int .u64 14, .int .u64 2, .int .u64 8, .int .u64 6, .int .u64 0, .int .u64 8]) (T := 180) (g := w.heap.size) rfl
 replace CS := CS.alloc (.cells #[.int .u64 k.a, .int .u64 k.b] 29)
 have CK := Ce.made (w := (w.alloc (.cells #[.int .u64 14, .int .u64 2, .int .u64 8, .int .u64 6, .int .u64 0, .int .u64 8] 180))) (l := [.int .u64 k.a, .int .u64 k.b]) (T := 29) (g := w.heap.size + 1) (by simp)
 replace CS := CS.alloc (.cells #[.int .i64 f.a, .int .i64 f.p, .int .i64 f.ta, .int .i64 f.tp] 77)
 replace CK := CK.alloc (.cells #[.int .i64 f.a, .int .i64 f.p, .int .i64 f.ta, .int .i64 f.tp] 77)
 have CF := Ce.made (w := ((w.alloc (.cells #[.int .u64 14, .int .u64 2, .int .u64 8, .int .u64 6, .int .u64 0, .int .u64 8] 180)).alloc (.cells #[.int .u64 k.a, .int .u64 k.b] 29))) (l := [.int .i64 f.a, .int .i64 f.p, .int .i64 f.ta, .int .i64 f.tp]) (T := 77) (g := w.heap.size + 1 + 1) (by simp)
 replace CS := CS.alloc (.cells #[.int .i64 0, .int .i64 0, .int .i64 0] 184)
 replace CK := CK.alloc (.cells #[.int .i64 0, .int .i64 0, .int .i64 0] 184)
 replace CF := CF.alloc (.cells #[.int .i64 0, .int .i64 0, .int .i64 0] 184)
 have CR := Ce.made (w := (((w.alloc (.cells #[.int .u64 14, .int .u64 2, .int .u64 8, .int .u64 6, .int .u64 0, .int .u64 8] 180)).alloc (.cells #[.int .u64 k.a, .int .u64 k.b] 29)).alloc (.cells #[.int .i64 f.a, .int .i64 f.p, .int .i64 f.ta, .int .i64 f.tp] 77))) (l := [.int .i64 0, .int .i64 0, .int .i64 0]) (T := 184) (g := w.heap.size + 1 + 1 + 1) (by simp)
 replace CS := CS.alloc (.cells #[.int .i64 kd, .int .i64 f.a, .int .i64 f.p, .int .i64 f.ta, .int .i64 f.tp, .int .i64 x, .int .i64 e] 3)
 replace CK := CK.alloc (.cells #[.int .i64 kd, .int .i64 f.a, .int .i64 f.p, .int .i64 f.ta, .int .i64 f.tp, .int .i64 x, .int .i64 e] 3)
 replace CF := CF.alloc (.cells #[.int .i64 kd, .int .i64 f.a, .int .i64 f.p, .int .i64 f.ta, .int .i64 f.tp, .int .i64 x, .int .i64 e] 3)
 replace CR := CR.alloc (.cells #[.int .i64 kd, .int .i64 f.a, .int .i64 f.p, .int .i64 f.ta, .int .i64 f.tp, .int .i64 x, .int .i64 e] 3)
 have CX := Ce.made (w := ((((w.alloc (.cells #[.int .u64 14, .int .u64 2, .int .u64 8, .int .u64 6, .int .u64 0, .int .u64 8] 180)).alloc (.cells #[.int .u64 k.a, .int .u64 k.b] 29)).alloc (.cells #[.int .i64 f.a, .int .i64 f.p, .int .i64 f.ta, .int .i64 f.tp] 77)).alloc (.cells #[.int .i64 0, .int .i64 0, .int .i64 0] 184))) (l := [.int .i64 kd, .int .i64 f.a, .int .i64 f.p, .int .i64 f.ta, .int .i64 f.tp, .int .i64 x, .int .i64 e]) (T := 3) (g := w.heap.size + 1 + 1 + 1 + 1) (by simp)
 have B : Below w.heap.size w (((((w.alloc (.cells #[.int .u64 14, .int .u64 2, .int .u64 8, .int .u64 6, .int .u64 0, .int .u64 8] 180)).alloc (.cells #[.int .u64 k.a, .int .u64 k.b] 29)).alloc (.cells #[.int .i64 f.a, .int .i64 f.p, .int .i64 f.ta, .int .i64 f.tp] 77)).alloc (.cells #[.int .i64 0, .int .i64 0, .int .i64 0] 184)).alloc (.cells #[.int .i64 kd, .int .i64 f.a, .int .i64 f.p, .int .i64 f.ta, .int .i64 f.tp, .int .i64 x, .int .i64 e] 3)) := ((((((Below.refl w.heap.size w).alloc (by first | exact Nat.le_refl _ | (simp; done) | (simp; omega)) (.cells #[.int .u64 14, .int .u64 2, .int .u64 8, .int .u64 6, .int .u64 0, .int .u64 8] 180)).alloc (by first | exact Nat.le_refl _ | (simp; done) | (simp; omega)) (.cells #[.int .u64 k.a, .int .u64 k.b] 29)).alloc (by first | exact Nat.le_refl _ | (simp; done) | (simp; omega)) (.cells #[.int .i64 f.a, .int .i64 f.p, .int .i64 f.ta, .int .i64 f.tp] 77)).alloc (by first | exact Nat.le_refl _ | (simp; done) | (simp; omega)) (.cells #[.int .i64 0, .int .i64 0, .int .i64 0] 184)).alloc (by first | exact Nat.le_refl _ | (simp; done) | (simp; omega)) (.cells #[.int .i64 kd, .int .i64 f.a, .int .i64 f.p, .int .i64 f.ta, .int .i64 f.tp, .int .i64 x, .int .i64 e] 3))
 generalize ((((w.alloc (.cells #[.int .u64 14, .int .u64 2, .int .u64 8, .int .u64 6, .int .u64 0, .int .u64 8] 180)).alloc (.cells #[.int .u64 k.a, .int .u64 k.b] 29)).alloc (.cells #[.int .i64 f.a, .int .i64 f.p, .int .i64 f.ta, .int .i64 f.tp] 77)).alloc (.cells #[.int .i64 0, .int .i64 0, .int .i64 0] 184)).alloc (.cells #[.int .i64 kd, .int .i64 f.a, .int .i64 f.p, .int .i64 f.ta, .int .i64 f.tp, .int .i64 x, .int .i64 e] 3) = w1 at *
 generalize w.heap.size + 1 + 1 + 1 + 1 = X at *
 generalize w.heap.size + 1 + 1 + 1 = R at *
 generalize w.heap.size + 1 + 1 = F at *
 generalize w.heap.size + 1 = K at *
 generalize hK : w.heap.size = S at *
 refine (re_u64 (words_any k.a k.b (some ⟨X, 0, none⟩) 7 7 _ w1 (Ce.sl [kd, f.a, f.p, f.ta, f.tp, x, e] CX) hI (by omega)) (show _ = W7 k kd f x e from rfl)).mono ?_
 rintro e' w2 ⟨rfl, hb⟩
 replace B := B.trans (hb.mono (Nat.le_of_lt CS.1))
 replace CS := CS.below hb
 replace CK := CK.below hb
 replace CF := CF.below hb
 replace CR := CR.below hb
 clear CX hb
 obtain ⟨kS, qS, zS⟩ := CS
 have cS0 := qS 0 _ rfl
 have cS1 := qS 1 _ rfl
 have cS2 := qS 2 _ rfl
 have cS3 := qS 3 _ rfl
 have cS4 := qS 4 _ rfl
 have cS5 := qS 5 _ rfl
 clear qS zS
 obtain ⟨kK, qK, zK⟩ := CK
 have cK0 := qK 0 _ rfl
 have cK1 := qK 1 _ rfl
 clear qK zK
 obtain ⟨kF, qF, zF⟩ := CF
 have cF0 := qF 0 _ rfl
 have cF1 := qF 1 _ rfl
 have cF2 := qF 2 _ rfl
 have cF3 := qF 3 _ rfl
 clear qF zF
 obtain ⟨kR, qR, zR⟩ := CR
 have cR0 := qR 0 _ rfl
 have cR1 := qR 1 _ rfl
 have cR2 := qR 2 _ rfl
 have zR0 := zR 0
 have zR1 := zR 1
 have zR2 := zR 2
 clear qR zR
 have hx : Hid (bits .xor .i64 x (wrap64 (W7 k kd f 64 e)) % 64 = xr (x % 64) (W7 k kd f 64 e % 64)) := by
  unfold Hid
  rw [xor64, show wrap64 (W7 k kd f 64 e) % 64 = W7 k kd f 64 e % 64 from w64_mod _ 6 (by omega)]
 have hy : Hid (IntKind.i64.wrap (W7 k kd f x e) % 256 = W7 k kd f x e % 256) := wrap_mod _ 8 (by omega)
 have M := mask_any k kd f e hf hk he
 unfold kyV flV at M
 replace M := hid M
 go_wp2_with fail
 replace cR0 := cv_of cR0
 replace cR1 := cv_of cR1
 replace cR2 := cv_of cR2
 go_region_held3 (fun w' => w'.cell? ⟨S, 0, none⟩ = some (.int .u64 14) ∧ w'.cell? ⟨S, 1, none⟩ = some (.int .u64 2) ∧ w'.cell? ⟨S, 2, none⟩ = some (.int .u64 8) ∧ w'.cell? ⟨S, 3, none⟩ = some (.int .u64 6) ∧ w'.cell? ⟨S, 4, none⟩ = some (.int .u64 0) ∧ w'.cell? ⟨S, 5, none⟩ = some (.int .u64 8) ∧ w'.cell? ⟨K, 0, none⟩ = some (.int .u64 k.a) ∧ w'.cell? ⟨K, 1, none⟩ = some (.int .u64 k.b) ∧ w'.cell? ⟨F, 0, none⟩ = some (.int .i64 f.a) ∧ w'.cell? ⟨F, 1, none⟩ = some (.int .i64 f.p) ∧ w'.cell? ⟨F, 2, none⟩ = some (.int .i64 f.ta) ∧ w'.cell? ⟨F, 3, none⟩ = some (.int .i64 f.tp) ∧ S < w'.heap.size ∧ K < w'.heap.size ∧ F < w'.heap.size ∧ R < w'.heap.size ∧ w'.cell? ⟨R, 0, none⟩ = some (cv w' R 0) ∧ w'.cell? ⟨R, 1, none⟩ = some (cv w' R 1) ∧ w'.cell? ⟨R, 2, none⟩ = some (cv w' R 2) ∧ w'.frozen? ⟨R, 0, none⟩ = false ∧ w'.frozen? ⟨R, 1, none⟩ = false ∧ w'.frozen? ⟨R, 2, none⟩ = false ∧ Below S w w')
  (first
   | (go_split_ands; refine ⟨?_, ?_, ?_, ?_, ?_, ?_, ?_, ?_, ?_, ?_, ?_, ?_, ?_, ?_, ?_, ?_, ?_, ?_, ?_, ?_, ?_, ?_, ?_⟩; with_reducible exact ((World.cell?_setCell_far _ _ _ _ dS).trans ((World.cell?_setCell_far _ _ _ _ dS).trans ((World.cell?_setCell_far _ _ _ _ dS).trans (by assumption)))); with_reducible exact ((World.cell?_setCell_far _ _ _ _ dS).trans ((World.cell?_setCell_far _ _ _ _ dS).trans ((World.cell?_setCell_far _ _ _ _ dS).trans (by assumption)))); with_reducible exact ((World.cell?_setCell_far _ _ _ _ dS).trans ((World.cell?_setCell_far _ _ _ _ dS).trans ((World.cell?_setCell_far _ _ _ _ dS).trans (by assumption)))); with_reducible exact ((World.cell?_setCell_far _ _ _ _ dS).trans ((World.cell?_setCell_far _ _ _ _ dS).trans ((World.cell?_setCell_far _ _ _ _ dS).trans (by assumption)))); with_reducible exact ((World.cell?_setCell_far _ _ _ _ dS).trans ((World.cell?_setCell_far _ _ _ _ dS).trans ((World.cell?_setCell_far _ _ _ _ dS).trans (by assumption)))); with_reducible exact ((World.cell?_setCell_far _ _ _ _ dS).trans ((World.cell?_setCell_far _ _ _ _ dS).trans ((World.cell?_setCell_far _ _ _ _ dS).trans (by assumption)))); with_reducible exact ((World.cell?_setCell_far _ _ _ _ dK).trans ((World.cell?_setCell_far _ _ _ _ dK).trans ((World.cell?_setCell_far _ _ _ _ dK).trans (by assumption)))); with_reducible exact ((World.cell?_setCell_far _ _ _ _ dK).trans ((World.cell?_setCell_far _ _ _ _ dK).trans ((World.cell?_setCell_far _ _ _ _ dK).trans (by assumption)))); with_reducible exact ((World.cell?_setCell_far _ _ _ _ dF).trans ((World.cell?_setCell_far _ _ _ _ dF).trans ((World.cell?_setCell_far _ _ _ _ dF).trans (by assumption)))); with_reducible exact ((World.cell?_setCell_far _ _ _ _ dF).trans ((World.cell?_setCell_far _ _ _ _ dF).trans ((World.cell?_setCell_far _ _ _ _ dF).trans (by assumption)))); with_reducible exact ((World.cell?_setCell_far _ _ _ _ dF).trans ((World.cell?_setCell_far _ _ _ _ dF).trans ((World.cell?_setCell_far _ _ _ _ dF).trans (by assumption)))); with_reducible exact ((World.cell?_setCell_far _ _ _ _ dF).trans ((World.cell?_setCell_far _ _ _ _ dF).trans ((World.cell?_setCell_far _ _ _ _ dF).trans (by assumption)))); with_reducible exact Nat.lt_of_lt_of_le (by assumption) (Below.setCell (Below.setCell (Below.setCell (Below.refl 0 _) (Nat.zero_le _) _) (Nat.zero_le _) _) (Nat.zero_le _) _).size; with_reducible exact Nat.lt_of_lt_of_le (by assumption) (Below.setCell (Below.setCell (Below.setCell (Below.refl 0 _) (Nat.zero_le _) _) (Nat.zero_le _) _) (Nat.zero_le _) _).size; with_reducible exact Nat.lt_of_lt_of_le (by assumption) (Below.setCell (Below.setCell (Below.setCell (Below.refl 0 _) (Nat.zero_le _) _) (Nat.zero_le _) _) (Nat.zero_le _) _).size; with_reducible exact Nat.lt_of_lt_of_le (by assumption) (Below.setCell (Below.setCell (Below.setCell (Below.refl 0 _) (Nat.zero_le _) _) (Nat.zero_le _) _) (Nat.zero_le _) _).size; with_reducible exact (cv_set (cv_set (cv_set (by assumption)))); with_reducible exact (cv_set (cv_set (cv_set (by assumption)))); with_reducible exact (cv_set (cv_set (cv_set (by assumption)))); (simp only [World.frozen?_setCell]; assumption); (simp only [World.frozen?_setCell]; assumption); (simp only [World.frozen?_setCell]; assumption); with_reducible exact (Below.setCell (Below.setCell (Below.setCell (by assumption) lR _) lR _) lR _))
   | (go_split_ands; refine ⟨?_, ?_, ?_, ?_, ?_, ?_, ?_, ?_, ?_, ?_, ?_, ?_, ?_, ?_, ?_, ?_, ?_, ?_, ?_, ?_, ?_, ?_, ?_⟩; (iterate 12 (exact (hb5.cell (by assumption)).trans (by assumption))); (iterate 4 (exact Nat.lt_of_lt_of_le (by assumption) hb5.size)); (iterate 3 (exact cv_of ((hb5.cell (by assumption)).trans (by assumption)))); (iterate 3 (exact (World.frozen?_of_block (a := _) (hb5.block R (by assumption))).trans (by assumption))); exact Below.trans (by assumption) (hb5.mono (by first | exact Nat.le_of_lt (by assumption) | exact Below.size (by assumption))))
   | (refine ⟨?_, ?_, ?_, ?_, ?_, ?_, ?_, ?_, ?_, ?_, ?_, ?_, ?_, ?_, ?_, ?_, ?_, ?_, ?_, ?_, ?_, ?_, ?_⟩; (iterate 22 (assumption)); exact Below.drew (by assumption))
   | (go_split_ands; refine ⟨?_, ?_, ?_, ?_, ?_, ?_, ?_, ?_, ?_, ?_, ?_, ?_, ?_, ?_, ?_, ?_, ?_, ?_, ?_, ?_, ?_, ?_, ?_⟩; (iterate 12 (exact (World.cell?_alloc_lt _ _ _ (by assumption)).trans (by assumption))); (simp; omega); (simp; omega); (simp; omega); (simp; omega); (iterate 3 (exact cv_of ((World.cell?_alloc_lt _ _ _ (by assumption)).trans (by assumption)))); (iterate 3 (exact (World.frozen?_of_block (a := _) (((Below.refl _ _).alloc (Nat.le_refl _) _).block R (by assumption))).trans (by assumption))); exact Below.alloc (by assumption) (by first | exact Nat.le_of_lt (by assumption) | exact Below.size (by assumption)) _)
   | (go_split_ands; refine ⟨?_, ?_, ?_, ?_, ?_, ?_, ?_, ?_, ?_, ?_, ?_, ?_, ?_, ?_, ?_, ?_, ?_, ?_, ?_, ?_, ?_, ?_, ?_⟩; (iterate 22 (assumption)); assumption)
   | go_keep)
  ((first
    | (go_at_call 148
       go_split_ands
       with_reducible refine (M.out _).mono ?_
       rintro e5 w5 ⟨rfl, hb5⟩)
    | (go_at_call 147
       go_split_ands
       with_reducible refine (cutI 8 6 _ _ ?_).mono ?_
       ·decide
       rintro e5 w5 ⟨rfl, hb5⟩)
    | (go_at_call 147
       go_split_ands
       with_reducible refine (cutI 0 8 _ _ ?_).mono ?_
       ·decide
       rintro e5 w5 ⟨rfl, hb5⟩)))
 all_goals
  go_split_ands
  go_wp2_with fail
  have T := set3 (R := R) (by assumption) (by assumption) (by assumption)
  obtain ⟨t0, t1, t2⟩ := T
  refine at_world (fun w9 => w9.cell? ⟨R, 0, none⟩ = some (.int .i64 e) ∧ w9.cell? ⟨R, 1, none⟩ = some (.int .i64 (xr (x % 64) (W7 k kd f 64 e % 64))) ∧ w9.cell? ⟨R, 2, none⟩ = some (.int .i64 (W7 k kd f x e % 256)) ∧ Below S w w9) ⟨t0, t1.trans (by rw [hx.out]), t2.trans (by rw [hy.out]), by assumption⟩ ?_
  clear t0 t1 t2
  rintro w9 ⟨t0, t1, t2, hb9⟩
  refine bodyPost_ret (v := .agg #[.int .i64 e, .int .i64 (xr (x % 64) (W7 k kd f 64 e % 64)), .int .i64 (W7 k kd f x e % 256)]) (by simp [results, Tryz.results121, go_sem, t0, t1, t2]) rfl ⟨rfl, ?_⟩
  rw [hK]
  exact hb9
end Go.Proofs.YteapnfdpkjbfhaaGreat
namespace Go.Proofs.YteapnfdpkjbfhaaGreat
set_option linter.unusedVariables false
set_option linter.unusedSimpArgs false
open Go.RowKit Go.ChangeShapes Go.WideShapes Go.ChangeAt
theorem apart1 (c : Int) (w : World) :
 Calls Tryz.prog 145 #[shV 4096, .int .i64 c] w fun e' w' => e' = .returned (ptV (c / (64 * 4096) % 4) (c / 4096 % 64) (c % 4096)) ∧ Below w.heap.size w w' := by
 rw [shV1]
 unfold ptV
 go_enter Tryz.func145, Tryz.ntmps145
 go_wp2_with fail
 have dS : w.heap.size + 1 ≠ w.heap.size := by omega
 have lR : w.heap.size ≤ w.heap.size + 1 := by omega
 have CS := Ce.made (w := w) (l := [.int .u64 18, .int .u64 2, .int .u64 12, .int .u64 6, .int .u64 0, .int .u64 12]) (T := 180) (g := w.heap.size) rfl
 replace CS := CS.alloc (.cells #[.int .i64 0, .int .i64 0, .int .i64 0] 184)
 have CR := Ce.made (w := (w.alloc (.cells #[.int .u64 18, .int .u64 2, .int .u64 12, .int .u64 6, .int .u64 0, .int .u64 12] 180))) (l := [.int .i64 0, .int .i64 0, .int .i64 0]) (T := 184) (g := w.heap.size + 1) (by simp)
 have B : Below w.heap.size w ((w.alloc (.cells #[.int .u64 18, .int .u64 2, .int .u64 12, .int .u64 6, .int .u64 0, .int .u64 12] 180)).alloc (.cells #[.int .i64 0, .int .i64 0, .int .i64 0] 184)) := (((Below.refl w.heap.size w).alloc (by first | exact Nat.le_refl _ | (simp; done) | (simp; omega)) (.cells #[.int .u64 18, .int .u64 2, .int .u64 12, .int .u64 6, .int .u64 0, .int .u64 12] 180)).alloc (by first | exact Nat.le_refl _ | (simp; done) | (simp; omega)) (.cells #[.int .i64 0, .int .i64 0, .int .i64 0] 184))
 generalize (w.alloc (.cells #[.int .u64 18, .int .u64 2, .int .u64 12, .int .u64 6, .int .u64 0, .int .u64 12] 180)).alloc (.cells #[.int .i64 0, .int .i64 0, .int .i64 0] 184) = w1 at *
 generalize w.heap.size + 1 = R at *
 generalize hK : w.heap.size = S at *
 obtain ⟨kS, qS, zS⟩ := CS
 have cS0 := qS 0 _ rfl
 have cS1 := qS 1 _ rfl
 have cS2 := qS 2 _ rfl
 have cS3 := qS 3 _ rfl
 have cS4 := qS 4 _ rfl
 have cS5 := qS 5 _ rfl
 clear qS zS
 obtain ⟨kR, qR, zR⟩ := CR
 have cR0 := qR 0 _ rfl
 have cR1 := qR 1 _ rfl
 have cR2 := qR 2 _ rfl
 have zR0 := zR 0
 have zR1 := zR 1
 have zR2 := zR 2
 clear qR zR
 replace cR0 := cv_of cR0
 replace cR1 := cv_of cR1
 replace cR2 := cv_of cR2
 go_region_held3 (fun w' => w'.cell? ⟨S, 0, none⟩ = some (.int .u64 18) ∧ w'.cell? ⟨S, 1, none⟩ = some (.int .u64 2) ∧ w'.cell? ⟨S, 2, none⟩ = some (.int .u64 12) ∧ w'.cell? ⟨S, 3, none⟩ = some (.int .u64 6) ∧ w'.cell? ⟨S, 4, none⟩ = some (.int .u64 0) ∧ w'.cell? ⟨S, 5, none⟩ = some (.int .u64 12) ∧ S < w'.heap.size ∧ R < w'.heap.size ∧ w'.cell? ⟨R, 0, none⟩ = some (cv w' R 0) ∧ w'.cell? ⟨R, 1, none⟩ = some (cv w' R 1) ∧ w'.cell? ⟨R, 2, none⟩ = some (cv w' R 2) ∧ w'.frozen? ⟨R, 0, none⟩ = false ∧ w'.frozen? ⟨R, 1, none⟩ = false ∧ w'.frozen? ⟨R, 2, none⟩ = false ∧ Below S w w')
  (first
   | (go_split_ands; refine ⟨?_, ?_, ?_, ?_, ?_, ?_, ?_, ?_, ?_, ?_, ?_, ?_, ?_, ?_, ?_⟩; with_reducible exact ((World.cell?_setCell_far _ _ _ _ dS).trans ((World.cell?_setCell_far _ _ _ _ dS).trans ((World.cell?_setCell_far _ _ _ _ dS).trans (by assumption)))); with_reducible exact ((World.cell?_setCell_far _ _ _ _ dS).trans ((World.cell?_setCell_far _ _ _ _ dS).trans ((World.cell?_setCell_far _ _ _ _ dS).trans (by assumption)))); with_reducible exact ((World.cell?_setCell_far _ _ _ _ dS).trans ((World.cell?_setCell_far _ _ _ _ dS).trans ((World.cell?_setCell_far _ _ _ _ dS).trans (by assumption)))); with_reducible exact ((World.cell?_setCell_far _ _ _ _ dS).trans ((World.cell?_setCell_far _ _ _ _ dS).trans ((World.cell?_setCell_far _ _ _ _ dS).trans (by assumption)))); with_reducible exact ((World.cell?_setCell_far _ _ _ _ dS).trans ((World.cell?_setCell_far _ _ _ _ dS).trans ((World.cell?_setCell_far _ _ _ _ dS).trans (by assumption)))); with_reducible exact ((World.cell?_setCell_far _ _ _ _ dS).trans ((World.cell?_setCell_far _ _ _ _ dS).trans ((World.cell?_setCell_far _ _ _ _ dS).trans (by assumption)))); with_reducible exact Nat.lt_of_lt_of_le (by assumption) (Below.setCell (Below.setCell (Below.setCell (Below.refl 0 _) (Nat.zero_le _) _) (Nat.zero_le _) _) (Nat.zero_le _) _).size; with_reducible exact Nat.lt_of_lt_of_le (by assumption) (Below.setCell (Below.setCell (Below.setCell (Below.refl 0 _) (Nat.zero_le _) _) (Nat.zero_le _) _) (Nat.zero_le _) _).size; with_reducible exact (cv_set (cv_set (cv_set (by assumption)))); with_reducible exact (cv_set (cv_set (cv_set (by assumption)))); with_reducible exact (cv_set (cv_set (cv_set (by assumption)))); (simp only [World.frozen?_setCell]; assumption); (simp only [World.frozen?_setCell]; assumption); (simp only [World.frozen?_setCell]; assumption); with_reducible exact (Below.setCell (Below.setCell (Below.setCell (by assumption) lR _) lR _) lR _))
   | (go_split_ands; refine ⟨?_, ?_, ?_, ?_, ?_, ?_, ?_, ?_, ?_, ?_, ?_, ?_, ?_, ?_, ?_⟩; (iterate 6 (exact (hb5.cell (by assumption)).trans (by assumption))); exact Nat.lt_of_lt_of_le (by assumption) hb5.size; exact Nat.lt_of_lt_of_le (by assumption) hb5.size; (iterate 3 (exact cv_of ((hb5.cell (by assumption)).trans (by assumption)))); (iterate 3 (exact (World.frozen?_of_block (a := _) (hb5.block R (by assumption))).trans (by assumption))); exact Below.trans (by assumption) (hb5.mono (by first | exact Nat.le_of_lt (by assumption) | exact Below.size (by assumption))))
   | (refine ⟨?_, ?_, ?_, ?_, ?_, ?_, ?_, ?_, ?_, ?_, ?_, ?_, ?_, ?_, ?_⟩; (iterate 14 (assumption)); exact Below.drew (by assumption))
   | (go_split_ands; refine ⟨?_, ?_, ?_, ?_, ?_, ?_, ?_, ?_, ?_, ?_, ?_, ?_, ?_, ?_, ?_⟩; (iterate 6 (exact (World.cell?_alloc_lt _ _ _ (by assumption)).trans (by assumption))); (simp; omega); (simp; omega); (iterate 3 (exact cv_of ((World.cell?_alloc_lt _ _ _ (by assumption)).trans (by assumption)))); (iterate 3 (exact (World.frozen?_of_block (a := _) (((Below.refl _ _).alloc (Nat.le_refl _) _).block R (by assumption))).trans (by assumption))); exact Below.alloc (by assumption) (by first | exact Nat.le_of_lt (by assumption) | exact Below.size (by assumption)) _)
   | (go_split_ands; refine ⟨?_, ?_, ?_, ?_, ?_, ?_, ?_, ?_, ?_, ?_, ?_, ?_, ?_, ?_, ?_⟩; (iterate 14 (assumption)); assumption)
   | go_keep)
  ((first
    | (go_at_call 163
       go_split_ands
       with_reducible refine (ofI 18 2 _ _ ?_).mono ?_
       ·decide
       rintro e5 w5 ⟨rfl, hb5⟩)
    | (go_at_call 163
       go_split_ands
       with_reducible refine (ofI 12 6 _ _ ?_).mono ?_
       ·decide
       rintro e5 w5 ⟨rfl, hb5⟩)
    | (go_at_call 163
       go_split_ands
       with_reducible refine (ofI 0 12 _ _ ?_).mono ?_
       ·decide
       rintro e5 w5 ⟨rfl, hb5⟩)))
 all_goals
  go_split_ands
  go_wp2_with fail
  have T := set3 (R := R) (by assumption) (by assumption) (by assumption)
  obtain ⟨t0, t1, t2⟩ := T
  refine at_world (fun w9 => w9.cell? ⟨R, 0, none⟩ = some (.int .i64 (c / (64 * 4096) % 4)) ∧ w9.cell? ⟨R, 1, none⟩ = some (.int .i64 (c / 4096 % 64)) ∧ w9.cell? ⟨R, 2, none⟩ = some (.int .i64 (c % 4096)) ∧ Below S w w9) ⟨t0.trans (by simp), t1.trans (by simp), t2.trans (by simp), by assumption⟩ ?_
  clear t0 t1 t2
  rintro w9 ⟨t0, t1, t2, hb9⟩
  refine bodyPost_ret (v := .agg #[.int .i64 (c / (64 * 4096) % 4), .int .i64 (c / 4096 % 64), .int .i64 (c % 4096)]) (by simp [results, Tryz.results145, go_sem, t0, t1, t2]) rfl ⟨rfl, ?_⟩
  rw [hK]
  exact hb9
theorem apart2 (c : Int) (w : World) :
 Calls Tryz.prog 145 #[shV 256, .int .i64 c] w fun e' w' => e' = .returned (ptV (c / (64 * 256) % 4) (c / 256 % 64) (c % 256)) ∧ Below w.heap.size w w' := by
 rw [shV2]
 unfold ptV
 go_enter Tryz.func145, Tryz.ntmps145
 go_wp2_with fail
 have dS : w.heap.size + 1 ≠ w.heap.size := by omega
 have lR : w.heap.size ≤ w.heap.size + 1 := by omega
 have CS := Ce.made (w := w) (l := [.int .u64 14, .int .u64 2, .int .u64 8, .int .u64 6, .int .u64 0, .int .u64 8]) (T := 180) (g := w.heap.size) rfl
 replace CS := CS.alloc (.cells #[.int .i64 0, .int .i64 0, .int .i64 0] 184)
 have CR := Ce.made (w := (w.alloc (.cells #[.int .u64 14, .int .u64 2, .int .u64 8, .int .u64 6, .int .u64 0, .int .u64 8] 180))) (l := [.int .i64 0, .int .i64 0, .int .i64 0]) (T := 184) (g := w.heap.size + 1) (by simp)
 have B : Below w.heap.size w ((w.alloc (.cells #[.int .u64 14, .int .u64 2, .int .u64 8, .int .u64 6, .int .u64 0, .int .u64 8] 180)).alloc (.cells #[.int .i64 0, .int .i64 0, .int .i64 0] 184)) := (((Below.refl w.heap.size w).alloc (by first | exact Nat.le_refl _ | (simp; done) | (simp; omega)) (.cells #[.int .u64 14, .int .u64 2, .int .u64 8, .int .u64 6, .int .u64 0, .int .u64 8] 180)).alloc (by first | exact Nat.le_refl _ | (simp; done) | (simp; omega)) (.cells #[.int .i64 0, .int .i64 0, .int .i64 0] 184))
 generalize (w.alloc (.cells #[.int .u64 14, .int .u64 2, .int .u64 8, .int .u64 6, .int .u64 0, .int .u64 8] 180)).alloc (.cells #[.int .i64 0, .int .i64 0, .int .i64 0] 184) = w1 at *
 generalize w.heap.size + 1 = R at *
 generalize hK : w.heap.size = S at *
 obtain ⟨kS, qS, zS⟩ := CS
 have cS0 := qS 0 _ rfl
 have cS1 := qS 1 _ rfl
 have cS2 := qS 2 _ rfl
 have cS3 := qS 3 _ rfl
 have cS4 := qS 4 _ rfl
 have cS5 := qS 5 _ rfl
 clear qS zS
 obtain ⟨kR, qR, zR⟩ := CR
 have cR0 := qR 0 _ rfl
 have cR1 := qR 1 _ rfl
 have cR2 := qR 2 _ rfl
 have zR0 := zR 0
 have zR1 := zR 1
 have zR2 := zR 2
 clear qR zR
 replace cR0 := cv_of cR0
 replace cR1 := cv_of cR1
 replace cR2 := cv_of cR2
 go_region_held3 (fun w' => w'.cell? ⟨S, 0, none⟩ = some (.int .u64 14) ∧ w'.cell? ⟨S, 1, none⟩ = some (.int .u64 2) ∧ w'.cell? ⟨S, 2, none⟩ = some (.int .u64 8) ∧ w'.cell? ⟨S, 3, none⟩ = some (.int .u64 6) ∧ w'.cell? ⟨S, 4, none⟩ = some (.int .u64 0) ∧ w'.cell? ⟨S, 5, none⟩ = some (.int .u64 8) ∧ S < w'.heap.size ∧ R < w'.heap.size ∧ w'.cell? ⟨R, 0, none⟩ = some (cv w' R 0) ∧ w'.cell? ⟨R, 1, none⟩ = some (cv w' R 1) ∧ w'.cell? ⟨R, 2, none⟩ = some (cv w' R 2) ∧ w'.frozen? ⟨R, 0, none⟩ = false ∧ w'.frozen? ⟨R, 1, none⟩ = false ∧ w'.frozen? ⟨R, 2, none⟩ = false ∧ Below S w w')
  (first
   | (go_split_ands; refine ⟨?_, ?_, ?_, ?_, ?_, ?_, ?_, ?_, ?_, ?_, ?_, ?_, ?_, ?_, ?_⟩; with_reducible exact ((World.cell?_setCell_far _ _ _ _ dS).trans ((World.cell?_setCell_far _ _ _ _ dS).trans ((World.cell?_setCell_far _ _ _ _ dS).trans (by assumption)))); with_reducible exact ((World.cell?_setCell_far _ _ _ _ dS).trans ((World.cell?_setCell_far _ _ _ _ dS).trans ((World.cell?_setCell_far _ _ _ _ dS).trans (by assumption)))); with_reducible exact ((World.cell?_setCell_far _ _ _ _ dS).trans ((World.cell?_setCell_far _ _ _ _ dS).trans ((World.cell?_setCell_far _ _ _ _ dS).trans (by assumption)))); with_reducible exact ((World.cell?_setCell_far _ _ _ _ dS).trans ((World.cell?_setCell_far _ _ _ _ dS).trans ((World.cell?_setCell_far _ _ _ _ dS).trans (by assumption)))); with_reducible exact ((World.cell?_setCell_far _ _ _ _ dS).trans ((World.cell?_setCell_far _ _ _ _ dS).trans ((World.cell?_setCell_far _ _ _ _ dS).trans (by assumption)))); with_reducible exact ((World.cell?_setCell_far _ _ _ _ dS).trans ((World.cell?_setCell_far _ _ _ _ dS).trans ((World.cell?_setCell_far _ _ _ _ dS).trans (by assumption)))); with_reducible exact Nat.lt_of_lt_of_le (by assumption) (Below.setCell (Below.setCell (Below.setCell (Below.refl 0 _) (Nat.zero_le _) _) (Nat.zero_le _) _) (Nat.zero_le _) _).size; with_reducible exact Nat.lt_of_lt_of_le (by assumption) (Below.setCell (Below.setCell (Below.setCell (Below.refl 0 _) (Nat.zero_le _) _) (Nat.zero_le _) _) (Nat.zero_le _) _).size; with_reducible exact (cv_set (cv_set (cv_set (by assumption)))); with_reducible exact (cv_set (cv_set (cv_set (by assumption)))); with_reducible exact (cv_set (cv_set (cv_set (by assumption)))); (simp only [World.frozen?_setCell]; assumption); (simp only [World.frozen?_setCell]; assumption); (simp only [World.frozen?_setCell]; assumption); with_reducible exact (Below.setCell (Below.setCell (Below.setCell (by assumption) lR _) lR _) lR _))
   | (go_split_ands; refine ⟨?_, ?_, ?_, ?_, ?_, ?_, ?_, ?_, ?_, ?_, ?_, ?_, ?_, ?_, ?_⟩; (iterate 6 (exact (hb5.cell (by assumption)).trans (by assumption))); exact Nat.lt_of_lt_of_le (by assumption) hb5.size; exact Nat.lt_of_lt_of_le (by assumption) hb5.size; (iterate 3 (exact cv_of ((hb5.cell (by assumption)).trans (by assumption)))); (iterate 3 (exact (World.frozen?_of_block (a := _) (hb5.block R (by assumption))).trans (by assumption))); exact Below.trans (by assumption) (hb5.mono (by first | exact Nat.le_of_lt (by assumption) | exact Below.size (by assumption))))
   | (refine ⟨?_, ?_, ?_, ?_, ?_, ?_, ?_, ?_, ?_, ?_, ?_, ?_, ?_, ?_, ?_⟩; (iterate 14 (assumption)); exact Below.drew (by assumption))
   | (go_split_ands; refine ⟨?_, ?_, ?_, ?_, ?_, ?_, ?_, ?_, ?_, ?_, ?_, ?_, ?_, ?_, ?_⟩; (iterate 6 (exact (World.cell?_alloc_lt _ _ _ (by assumption)).trans (by assumption))); (simp; omega); (simp; omega); (iterate 3 (exact cv_of ((World.cell?_alloc_lt _ _ _ (by assumption)).trans (by assumption)))); (iterate 3 (exact (World.frozen?_of_block (a := _) (((Below.refl _ _).alloc (Nat.le_refl _) _).block R (by assumption))).trans (by assumption))); exact Below.alloc (by assumption) (by first | exact Nat.le_of_lt (by assumption) | exact Below.size (by assumption)) _)
   | (go_split_ands; refine ⟨?_, ?_, ?_, ?_, ?_, ?_, ?_, ?_, ?_, ?_, ?_, ?_, ?_, ?_, ?_⟩; (iterate 14 (assumption)); assumption)
   | go_keep)
  ((first
    | (go_at_call 163
       go_split_ands
       with_reducible refine (ofI 14 2 _ _ ?_).mono ?_
       ·decide
       rintro e5 w5 ⟨rfl, hb5⟩)
    | (go_at_call 163
       go_split_ands
       with_reducible refine (ofI 8 6 _ _ ?_).mono ?_
       ·decide
       rintro e5 w5 ⟨rfl, hb5⟩)
    | (go_at_call 163
       go_split_ands
       with_reducible refine (ofI 0 8 _ _ ?_).mono ?_
       ·decide
       rintro e5 w5 ⟨rfl, hb5⟩)))
 all_goals
  go_split_ands
  go_wp2_with fail
  have T := set3 (R := R) (by assumption) (by assumption) (by assumption)
  obtain ⟨t0, t1, t2⟩ := T
  refine at_world (fun w9 => w9.cell? ⟨R, 0, none⟩ = some (.int .i64 (c / (64 * 256) % 4)) ∧ w9.cell? ⟨R, 1, none⟩ = some (.int .i64 (c / 256 % 64)) ∧ w9.cell? ⟨R, 2, none⟩ = some (.int .i64 (c % 256)) ∧ Below S w w9) ⟨t0.trans (by simp), t1.trans (by simp), t2.trans (by simp), by assumption⟩ ?_
  clear t0 t1 t2
  rintro w9 ⟨t0, t1, t2, hb9⟩
  refine bodyPost_ret (v := .agg #[.int .i64 (c / (64 * 256) % 4), .int .i64 (c / 256 % 64), .int .i64 (c % 256)]) (by simp [results, Tryz.results145, go_sem, t0, t1, t2]) rfl ⟨rfl, ?_⟩
  rw [hK]
  exact hb9
end Go.Proofs.YteapnfdpkjbfhaaGreat
namespace Go.Proofs.YteapnfdpkjbfhaaGreat
set_option linter.unusedVariables false
set_option linter.unusedSimpArgs false
open Go.RowKit Go.ChangeShapes Go.WideShapes Go.ChangeAt
def kyO (o : Option Ky) : Value := .tuple #[kyV (o.getD ⟨0, 0⟩), .bool o.isSome]
theorem key_any (r : Rg) (e : Int) (hr : Ep r.e) (w : World) :
 Calls Tryz.prog 146 #[rgV r, .int .i64 e] w fun e' w' => e' = .returned (kyO (keyOf r e)) ∧ Below w.heap.size w w' := by
 obtain ⟨hr1, hr2⟩ := hr
 have q1 : IntKind.i64.wrap (r.e - 1) = r.e - 1 := IntWalk.i64_in _ (by omega)
 have q2 : IntKind.i64.wrap (r.e + 1) = r.e + 1 := IntWalk.i64_in _ (by omega)
 have HK := hid (show keyOf r e = _ from rfl)
 obtain ⟨o, ho⟩ : ∃ o, o = keyOf r e := ⟨_, rfl⟩
 rw [← ho]
 unfold keyOf at ho
 by_cases h0 : e % 4 = (r.e - 1) % 4
 ·rw [if_pos h0] at ho
  subst ho
  have b0 : (e % 4 == (r.e - 1) % 4) = true := by simp [h0]
  clear h0
  unfold kyO kyV rgV
  go_enter Tryz.func146, Tryz.ntmps146
  go_wp2_with fail
  refine (short_any _ _).mono ?_
  rintro e' w2 ⟨rfl, rfl⟩
  go_wp2_with fail
  refine (short_any _ _).mono ?_
  rintro e' w2 ⟨rfl, rfl⟩
  go_wp2_with fail
  refine bodyPost_ret (by simp [results, Tryz.results146, go_sem]) rfl ⟨rfl, ?_⟩
  repeat' (first | with_reducible exact Below.refl _ _ | with_reducible refine Below.drew ?_ | with_reducible refine Below.alloc ?_ ?_ _ | with_reducible refine Below.setCell ?_ ?_ _ | (simp; done) | (simp; omega))
 by_cases h1 : e % 4 = r.e % 4
 ·rw [if_neg h0] at ho; rw [if_pos h1] at ho
  subst ho
  have b0 : (e % 4 == (r.e - 1) % 4) = false := by simp [h0]
  have b1 : (e % 4 == r.e % 4) = true := by simp [h1]
  clear h0 h1
  unfold kyO kyV rgV
  go_enter Tryz.func146, Tryz.ntmps146
  go_wp2_with fail
  refine (short_any _ _).mono ?_
  rintro e' w2 ⟨rfl, rfl⟩
  go_wp2_with fail
  refine (short_any _ _).mono ?_
  rintro e' w2 ⟨rfl, rfl⟩
  go_wp2_with fail
  refine (short_any _ _).mono ?_
  rintro e' w2 ⟨rfl, rfl⟩
  go_wp2_with fail
  refine bodyPost_ret (by simp [results, Tryz.results146, go_sem]) rfl ⟨rfl, ?_⟩
  repeat' (first | with_reducible exact Below.refl _ _ | with_reducible refine Below.drew ?_ | with_reducible refine Below.alloc ?_ ?_ _ | with_reducible refine Below.setCell ?_ ?_ _ | (simp; done) | (simp; omega))
 by_cases h2 : e % 4 = (r.e + 1) % 4
 ·rw [if_neg h0] at ho; rw [if_neg h1] at ho; rw [if_pos h2] at ho
  subst ho
  have b0 : (e % 4 == (r.e - 1) % 4) = false := by simp [h0]
  have b1 : (e % 4 == r.e % 4) = false := by simp [h1]
  have b2 : (e % 4 == (r.e + 1) % 4) = true := by simp [h2]
  clear h0 h1 h2
  unfold kyO kyV rgV
  go_enter Tryz.func146, Tryz.ntmps146
  go_wp2_with fail
  refine (short_any _ _).mono ?_
  rintro e' w2 ⟨rfl, rfl⟩
  go_wp2_with fail
  refine (short_any _ _).mono ?_
  rintro e' w2 ⟨rfl, rfl⟩
  go_wp2_with fail
  refine (short_any _ _).mono ?_
  rintro e' w2 ⟨rfl, rfl⟩
  go_wp2_with fail
  refine (short_any _ _).mono ?_
  rintro e' w2 ⟨rfl, rfl⟩
  go_wp2_with fail
  refine bodyPost_ret (by simp [results, Tryz.results146, go_sem]) rfl ⟨rfl, ?_⟩
  repeat' (first | with_reducible exact Below.refl _ _ | with_reducible refine Below.drew ?_ | with_reducible refine Below.alloc ?_ ?_ _ | with_reducible refine Below.setCell ?_ ?_ _ | (simp; done) | (simp; omega))
 ·rw [if_neg h0, if_neg h1, if_neg h2] at ho
  subst ho
  have b0 : (e % 4 == (r.e - 1) % 4) = false := by simp [h0]
  have b1 : (e % 4 == r.e % 4) = false := by simp [h1]
  have b2 : (e % 4 == (r.e + 1) % 4) = false := by simp [h2]
  clear h0 h1 h2
  unfold kyO kyV rgV
  go_enter Tryz.func146, Tryz.ntmps146
  go_wp2_with fail
  refine (short_any _ _).mono ?_
  rintro e' w2 ⟨rfl, rfl⟩
  go_wp2_with fail
  refine (short_any _ _).mono ?_
  rintro e' w2 ⟨rfl, rfl⟩
  go_wp2_with fail
  refine (short_any _ _).mono ?_
  rintro e' w2 ⟨rfl, rfl⟩
  go_wp2_with fail
  refine (short_any _ _).mono ?_
  rintro e' w2 ⟨rfl, rfl⟩
  go_wp2_with fail
  refine bodyPost_ret (by simp [results, Tryz.results146, go_sem]) rfl ⟨rfl, ?_⟩
  repeat' (first | with_reducible exact Below.refl _ _ | with_reducible refine Below.drew ?_ | with_reducible refine Below.alloc ?_ ?_ _ | with_reducible refine Below.setCell ?_ ?_ _ | (simp; done) | (simp; omega))
end Go.Proofs.YteapnfdpkjbfhaaGreat
