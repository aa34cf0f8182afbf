/- Cookies and stamps that carry, as plain numbers. The least contracts of cookies, of both packages. Cookies together and apart; their tags. Tags, masks, the parts of a cookie. Cookies apart; the document's cookies; keys by epochs. Keys by epochs; cookies made, of both packages. Rings of keys, of both packages; the laws' helpers of chapter 5. Rings of keys of the program; the next ring; the laws' helper Ring. The next ring; the laws' helpers Ring, kind. Cookies made, of both packages. Cookies read, of both packages. Cookies read, by the document. Stamps that carry: laid together, parted. The laws' helper known, of chapter 5; cookies of either kind. Stamps brought back, ahead of each other. Blocks that are read, blocks that are written whole: for regions walked step by step. -/
import Derived.Test.YtlfionfnpieoiaaGreatGs
import Derived.Test.YtlfionfnpieoiaaGreatGa
import Derived.Deep.RegionHeld3
import Derived.Deep.RegionWith
import Derived.Laws.IdiomCopy
namespace Go.Proofs.YtlfionfnpieoiaaGreat
set_option linter.unusedVariables false
open Go.RowKit Go.ChangeShapes Go.WideShapes Go.ChangeAt
def xr (a b : Int) : Int := ((a.toNat ^^^ b.toNat : Nat) : Int)
theorem xr_bd (a b : Int) (ha : 0 ≤ a ∧ a < 64) (hb : 0 ≤ b ∧ b < 64) : 0 ≤ xr a b ∧ xr a b < 64 := by
 have : a.toNat ^^^ b.toNat < 2 ^ 6 := Nat.xor_lt_two_pow (by omega) (by omega)
 unfold xr
 omega
theorem xr_back (a b : Int) (ha : 0 ≤ a) : xr (xr a b) b = a := by
 unfold xr
 rw [Int.toNat_natCast, Nat.xor_assoc, Nat.xor_self, Nat.xor_zero]
 omega
theorem wrap_mod (x : Int) (j : Nat) (hj : j ≤ 64) : IntKind.i64.wrap x % 2 ^ j = x % 2 ^ j := by
 have h1 : ((2 : Int) ^ j) ∣ 2 ^ 64 := ⟨2 ^ (64 - j), by rw [← Int.pow_add]; congr 1; omega⟩
 have h2 : IntKind.i64.wrap x % 2 ^ 64 = x % 2 ^ 64 := by rw [IntKind.wrap_i64]; omega
 rw [← Int.emod_emod_of_dvd (IntKind.i64.wrap x) h1, h2, Int.emod_emod_of_dvd _ h1]
theorem ofInt_mod (x : Int) (j : Nat) (hj : j ≤ 64) : (BitVec.ofInt 64 x).toNat % 2 ^ j = (x % 2 ^ j).toNat := by
 rw [BitVec.toNat_ofInt]
 have h1 : ((2 : Int) ^ j) ∣ 2 ^ 64 := ⟨2 ^ (64 - j), by rw [← Int.pow_add]; congr 1; omega⟩
 have h0 : (0 : Int) < 2 ^ j := Int.pow_pos (by omega)
 have h3 : 0 ≤ x % 2 ^ 64 := Int.emod_nonneg _ (by decide)
 have h4 : 0 ≤ x % 2 ^ j := Int.emod_nonneg _ (by omega)
 apply Int.ofNat.inj
 show ((((x % ((2 ^ 64 : Nat) : Int)).toNat % 2 ^ j : Nat)) : Int) = (((x % 2 ^ j).toNat : Nat) : Int)
 rw [Int.natCast_emod, Int.toNat_of_nonneg (by simpa using h3), Int.toNat_of_nonneg h4]
 have : (((2 ^ j : Nat)) : Int) = 2 ^ j := by simp
 rw [this, show (((2 ^ 64 : Nat)) : Int) = 2 ^ 64 from by simp, Int.emod_emod_of_dvd _ h1]
theorem and_i64 (x : Int) (j : Nat) (hj : j ≤ 62) : bits .and .i64 x (2 ^ j - 1) = x % 2 ^ j := by
 have h0 : (0 : Int) < 2 ^ j := Int.pow_pos (by omega)
 have hp : (2 : Nat) ^ j ≤ 2 ^ 62 := Nat.pow_le_pow_right (by omega) hj
 have hq : (((2 ^ j : Nat)) : Int) = 2 ^ j := by simp
 have e : BitVec.ofInt 64 (2 ^ j - 1) = BitVec.ofNat 64 (2 ^ j - 1) := by
  rw [← BitVec.ofInt_natCast]
  congr 1
  have := Nat.two_pow_pos j
  omega
 show IntKind.i64.wrap ((BitVec.ofInt 64 x &&& BitVec.ofInt 64 (2 ^ j - 1)).toNat : Int) = _
 rw [e, BitVec.toNat_and, BitVec.toNat_ofNat, Nat.mod_eq_of_lt (show 2 ^ j - 1 < 2 ^ 64 by omega), Nat.and_two_pow_sub_one_eq_mod, ofInt_mod x j (by omega)]
 have h4 : 0 ≤ x % 2 ^ j := Int.emod_nonneg _ (by omega)
 have h5 : x % 2 ^ j < 2 ^ j := Int.emod_lt_of_pos _ h0
 rw [Int.toNat_of_nonneg h4, IntKind.wrap_i64]
 omega
theorem xor_mod (x y : Int) (j : Nat) (hj : j ≤ 64) : bits .xor .i64 x y % 2 ^ j = xr (x % 2 ^ j) (y % 2 ^ j) := by
 show IntKind.i64.wrap ((BitVec.ofInt 64 x ^^^ BitVec.ofInt 64 y).toNat : Int) % 2 ^ j = _
 rw [wrap_mod _ _ hj, BitVec.toNat_xor]
 have hq : (((2 ^ j : Nat)) : Int) = 2 ^ j := by simp
 rw [← hq, ← Int.natCast_emod, Nat.xor_mod_two_pow, ofInt_mod x j hj, ofInt_mod y j hj]
 simp [xr]
/-- The masks that are met. -/
theorem mand3 (x : Int) : bits .and .i64 x 3 = x % 4 := and_i64 x 2 (by omega)
theorem mand63 (x : Int) : bits .and .i64 x 63 = x % 64 := and_i64 x 6 (by omega)
theorem mand255 (x : Int) : bits .and .i64 x 255 = x % 256 := and_i64 x 8 (by omega)
theorem mand4095 (x : Int) : bits .and .i64 x 4095 = x % 4096 := and_i64 x 12 (by omega)
theorem xor64 (x y : Int) : bits .xor .i64 x y % 64 = xr (x % 64) (y % 64) := xor_mod x y 6 (by omega)
/-- Who talks to whom. -/
structure Fl where
 a : Int
 p : Int
 ta : Int
 tp : Int
def Fl.ok (f : Fl) : Prop := (0 ≤ f.a ∧ f.a < 4294967296) ∧ (0 ≤ f.p ∧ f.p < 65536) ∧ (0 ≤ f.ta ∧ f.ta < 4294967296) ∧ (0 ≤ f.tp ∧ f.tp < 65536)
structure Ky where
 a : Int
 b : Int
structure Rg where
 e : Int
 p : Ky
 c : Ky
 n : Ky
/-- The keyed sum of a kind, a flow, two numbers. -/
def W7 (k : Ky) (kd : Int) (f : Fl) (x e : Int) : Int := sumW k.a k.b (fun j => [kd, f.a, f.p, f.ta, f.tp, x, e].getD j 0) 7
/-- A cookie; T is two to as many as its tag has bits. -/
def cok (T : Int) (k : Ky) (kd : Int) (f : Fl) (s e : Int) : Int := e * (64 * T) + xr s (W7 k kd f 64 e % 64) * T + W7 k kd f s e % T
def keyOf (r : Rg) (e : Int) : Option Ky :=
 if e % 4 = (r.e - 1) % 4 then some r.p else if e % 4 = r.e % 4 then some r.c else if e % 4 = (r.e + 1) % 4 then some r.n else none
def slotOf (T : Int) (k : Ky) (kd : Int) (f : Fl) (c : Int) : Int := xr (c / T % 64) (W7 k kd f 64 (c / (64 * T)) % 64)
def readC (T : Int) (r : Rg) (kd : Int) (f : Fl) (c : Int) : Option Int :=
 if c < 0 ∨ 256 * T ≤ c then none else
 match keyOf r (c / (64 * T)) with
 | none => none
 | some k => if cok T k kd f (slotOf T k kd f c) (c / (64 * T)) = c then some (slotOf T k kd f c) else none
end Go.Proofs.YtlfionfnpieoiaaGreat
namespace Go.Proofs.YtlfionfnpieoiaaGreat
set_option linter.unusedVariables false
set_option linter.unusedSimpArgs false
open Go.RowKit Go.ChangeShapes Go.WideShapes Go.ChangeAt
theorem re_u64 {P : Program} {F : FuncId} {args : Array Value} {w : World} {R : World → Prop} {a b : Int} (h : Calls P F args w fun e w' => e = .returned (.int .u64 a) ∧ R w') (he : a = b) :
 Calls P F args w fun e w' => e = .returned (.int .u64 b) ∧ R w' := by subst he; exact h
theorem re_v {P : Program} {F : FuncId} {args : Array Value} {w : World} {R : World → Prop} {a b : Value} (h : Calls P F args w fun e w' => e = .returned a ∧ R w') (he : a = b) :
 Calls P F args w fun e w' => e = .returned b ∧ R w' := by subst he; exact h
/-- Cells of a block, that may be written. -/
def Ce (w : World) (b : Nat) (l : List Value) : Prop := b < w.heap.size ∧ (∀ j v, l[j]? = some v → w.cell? ⟨b, j, none⟩ = some v) ∧ ∀ j, w.frozen? ⟨b, j, none⟩ = false
theorem Ce.below {w w' : World} {b : Nat} {l : List Value} (h : Ce w b l) (hb : Below w.heap.size w w') : Ce w' b l :=
 ⟨Nat.lt_of_lt_of_le h.1 hb.size, fun j v hj => (hb.cell (p := ⟨b, j, none⟩) h.1).trans (h.2.1 j v hj), fun j => (World.frozen?_of_block (a := ⟨b, j, none⟩) (hb.block b h.1)).trans (h.2.2 j)⟩
theorem Ce.alloc {w : World} {b : Nat} {l : List Value} (h : Ce w b l) (o : Obj) : Ce (w.alloc o) b l := h.below ((Below.refl _ _).alloc (Nat.le_refl _) o)
theorem Ce.made {w : World} {l : List Value} {T : TypeId} {g : Nat} (hg : w.heap.size = g) : Ce (w.alloc (.cells l.toArray T)) g l := by
 subst hg
 have h : (w.alloc (.cells l.toArray T)).heap[w.heap.size]? = some (.cells l.toArray T (0, 0)) := heap_alloc_new w _
 refine ⟨by simp, fun j v hj => ?_, fun j => frozen_of_row _ _ _ _ _ h⟩
 rw [cell_of_row _ w.heap.size j l.toArray T (0, 0) h]
 simpa using hj
/-- What a cell holds, whatever it is. -/
def cv (w : World) (b j : Nat) : Value := (w.cell? ⟨b, j, none⟩).getD undef
theorem cv_of {w : World} {b j : Nat} {v : Value} (h : w.cell? ⟨b, j, none⟩ = some v) : w.cell? ⟨b, j, none⟩ = some (cv w b j) := by unfold cv; rw [h]; rfl
theorem cv_set {w : World} {b j : Nat} {p : Addr} {v : Value} (h : w.cell? ⟨b, j, none⟩ = some (cv w b j)) : (w.setCell p v).cell? ⟨b, j, none⟩ = some (cv (w.setCell p v) b j) := by
 obtain ⟨v', h'⟩ := cell?_setCell_some (w := w) (p := p) (x := v) (q := ⟨b, j, none⟩) h
 exact cv_of h'
theorem cell_back {w : World} {b j : Nat} {p : Addr} {v u : Value} (h : (w.setCell p v).cell? ⟨b, j, none⟩ = some u) : ∃ u', w.cell? ⟨b, j, none⟩ = some u' := by
 by_cases e : p = ⟨b, j, none⟩
 ·subst e
  cases hb : w.heap[b]? with
  | none => simp [World.cell?, World.setCell, Array.getElem?_modify, hb] at h
  | some o =>
    cases o with
    | cells c el fr =>
      simp [World.cell?, World.setCell, Array.getElem?_modify, hb] at h ⊢
      have hj : j < c.size := by
       rcases Nat.lt_or_ge j c.size with hj | hj
       ·exact hj
       ·simp [Array.setIfInBounds, Nat.not_lt.2 hj] at h
      exact ⟨_, Array.getElem?_eq_getElem hj⟩
    | _ => simp [World.cell?, World.setCell, Array.getElem?_modify, hb] at h
 ·rw [World.cell?_setCell_other _ _ _ _ e] at h
  exact ⟨u, h⟩
theorem cell_last {w : World} {b j : Nat} {v u : Value} (h : (w.setCell ⟨b, j, none⟩ v).cell? ⟨b, j, none⟩ = some u) : (w.setCell ⟨b, j, none⟩ v).cell? ⟨b, j, none⟩ = some v := by
 obtain ⟨u', h'⟩ := cell_back h
 exact World.cell?_setCell_same _ _ _ h'
theorem set3 {w : World} {R : Nat} {a b c u0 u1 u2 : Value} (h0 : (((w.setCell ⟨R, 0, none⟩ a).setCell ⟨R, 1, none⟩ b).setCell ⟨R, 2, none⟩ c).cell? ⟨R, 0, none⟩ = some u0)
 (h1 : (((w.setCell ⟨R, 0, none⟩ a).setCell ⟨R, 1, none⟩ b).setCell ⟨R, 2, none⟩ c).cell? ⟨R, 1, none⟩ = some u1) (h2 : (((w.setCell ⟨R, 0, none⟩ a).setCell ⟨R, 1, none⟩ b).setCell ⟨R, 2, none⟩ c).cell? ⟨R, 2, none⟩ = some u2) :
 (((w.setCell ⟨R, 0, none⟩ a).setCell ⟨R, 1, none⟩ b).setCell ⟨R, 2, none⟩ c).cell? ⟨R, 0, none⟩ = some a ∧ (((w.setCell ⟨R, 0, none⟩ a).setCell ⟨R, 1, none⟩ b).setCell ⟨R, 2, none⟩ c).cell? ⟨R, 1, none⟩ = some b ∧ (((w.setCell ⟨R, 0, none⟩ a).setCell ⟨R, 1, none⟩ b).setCell ⟨R, 2, none⟩ c).cell? ⟨R, 2, none⟩ = some c := by
 obtain ⟨u, g0⟩ := cell_back h0
 obtain ⟨u', g0'⟩ := cell_back g0
 obtain ⟨v, g1⟩ := cell_back h1
 refine ⟨?_, ?_, cell_last h2⟩
 ·rw [World.cell?_setCell_other _ _ _ _ (by simp), World.cell?_setCell_other _ _ _ _ (by simp)]
  exact cell_last g0'
 ·rw [World.cell?_setCell_other _ _ _ _ (by simp)]
  exact cell_last g1
theorem at_world {P : Program} {fn : Func} {post : Ending → World → Prop} {x : Exit} {a : Act} {W : World} (Q : World → Prop) (hQ : Q W) (h : ∀ w, Q w → bodyPost P fn post x a w) : bodyPost P fn post x a W := h W hQ
def flV (f : Fl) : Value := .agg #[.int .i64 f.a, .int .i64 f.p, .int .i64 f.ta, .int .i64 f.tp]
def kyV (k : Ky) : Value := .agg #[.int .u64 k.a, .int .u64 k.b]
def rgV (r : Rg) : Value := .agg #[.int .i64 r.e, .int .u64 r.p.a, .int .u64 r.p.b, .int .u64 r.c.a, .int .u64 r.c.b, .int .u64 r.n.a, .int .u64 r.n.b]
def shV (T : Int) : Value := if T = 4096 then .agg #[.int .u64 18, .int .u64 2, .int .u64 12, .int .u64 6, .int .u64 0, .int .u64 12] else .agg #[.int .u64 14, .int .u64 2, .int .u64 8, .int .u64 6, .int .u64 0, .int .u64 8]
theorem shV1 : shV 4096 = .agg #[.int .u64 18, .int .u64 2, .int .u64 12, .int .u64 6, .int .u64 0, .int .u64 12] := rfl
theorem shV2 : shV 256 = .agg #[.int .u64 14, .int .u64 2, .int .u64 8, .int .u64 6, .int .u64 0, .int .u64 8] := rfl
def ptV (e m t : Int) : Value := .agg #[.int .i64 e, .int .i64 m, .int .i64 t]
/-- A kind, and two to as many as its tag has bits. -/
def KT (kd T : Int) : Prop := (kd = 1 ∧ T = 4096) ∨ (kd = 2 ∧ T = 256)
theorem KT.T_ {kd T : Int} (h : KT kd T) : T = 4096 ∨ T = 256 := by
 rcases h with ⟨_, h⟩ | ⟨_, h⟩
 ·exact .inl h
 ·exact .inr h
def I64 (x : Int) : Prop := -9223372036854775808 ≤ x ∧ x ≤ 9223372036854775807
def Fl.I (f : Fl) : Prop := I64 f.a ∧ I64 f.p ∧ I64 f.ta ∧ I64 f.tp
theorem seven_I {kd x e : Int} {f : Fl} (hf : f.I) (hk : I64 kd) (hx : I64 x) (he : I64 e) : IsI (fun j => [kd, f.a, f.p, f.ta, f.tp, x, e].getD j 0) := fun j => by
 obtain ⟨h1, h2, h3, h4⟩ := hf
 rcases j with _ | _ | _ | _ | _ | _ | _ | j
 ·exact hk
 ·exact h1
 ·exact h2
 ·exact h3
 ·exact h4
 ·exact hx
 ·exact he
 ·exact ⟨by simp, by simp⟩
theorem cutI (a wd v : Int) (w : World) (hw : wd = 2 ∨ wd = 6 ∨ wd = 8 ∨ wd = 12) :
 Calls Tryz.prog 125 #[.agg #[.int .u64 a, .int .u64 wd], .int .i64 v] w fun e w' => e = .returned (.int .i64 (v % 2 ^ wd.toNat)) ∧ Below w.heap.size w w' := by
 have h0 := mand3 v
 have h1 := mand63 v
 have h2 := mand255 v
 have h3 := mand4095 v
 rcases hw with rfl | rfl | rfl | rfl
 all_goals
  go_enter Tryz.func125, Tryz.ntmps125
  go_wp2_with fail
  go_ret
  refine ⟨rfl, ?_⟩
  repeat' (first | with_reducible exact Below.refl _ _ | with_reducible refine Below.drew ?_ | with_reducible refine Below.alloc ?_ ?_ _ | with_reducible refine Below.setCell ?_ ?_ _ | (simp; done) | (simp; omega))
theorem ofI (a wd v : Int) (w : World) (hf : (a = 18 ∧ wd = 2) ∨ (a = 14 ∧ wd = 2) ∨ (a = 12 ∧ wd = 6) ∨ (a = 8 ∧ wd = 6) ∨ (a = 0 ∧ wd = 12) ∨ (a = 0 ∧ wd = 8)) :
 Calls Tryz.prog 146 #[.agg #[.int .u64 a, .int .u64 wd], .int .i64 v] w fun e w' => e = .returned (.int .i64 (v / 2 ^ a.toNat % 2 ^ wd.toNat)) ∧ Below w.heap.size w w' := by
 have hw : wd = 2 ∨ wd = 6 ∨ wd = 8 ∨ wd = 12 := by omega
 have ha : 0 ≤ a := by omega
 have ha' : a ≤ 64 := by omega
 go_enter Tryz.func146, Tryz.ntmps146
 go_wp2_with fail
 refine (cutI a wd _ _ hw).mono ?_
 rintro e w' ⟨rfl, hb⟩
 have hb0 := ((Below.refl w.heap.size w).alloc (Nat.le_refl _) _).trans (hb.mono (by simp))
 go_wp2_with fail
 go_ret
 exact ⟨rfl, hb0⟩
theorem shapeOf_any (kd T : Int) (w : World) (hk : KT kd T) :
 Calls Tryz.prog 96 #[.int .i64 kd] w fun e w' => e = .returned (shV T) ∧ Below w.heap.size w w' := by
 rcases hk with ⟨rfl, rfl⟩ | ⟨rfl, rfl⟩
 ·rw [shV1]
  go_enter Tryz.func96, Tryz.ntmps96
  go_wp2_with fail
  refine bodyPost_ret (by simp [results, Tryz.results96, go_sem]) rfl ⟨rfl, ?_⟩
  repeat' (first | with_reducible exact Below.refl _ _ | with_reducible refine Below.drew ?_ | with_reducible refine Below.alloc ?_ ?_ _ | with_reducible refine Below.setCell ?_ ?_ _ | (simp; done) | (simp; omega))
 ·rw [shV2]
  go_enter Tryz.func96, Tryz.ntmps96
  go_wp2_with fail
  refine bodyPost_ret (by simp [results, Tryz.results96, go_sem]) rfl ⟨rfl, ?_⟩
  repeat' (first | with_reducible exact Below.refl _ _ | with_reducible refine Below.drew ?_ | with_reducible refine Below.alloc ?_ ?_ _ | with_reducible refine Below.setCell ?_ ?_ _ | (simp; done) | (simp; omega))
theorem short_any (e : Int) (w : World) : Calls Tryz.prog 99 #[.int .i64 e] w fun e' w' => e' = .returned (.int .i64 (e % 4)) ∧ w = w' := by
 have h := mand3 e
 go_enter Tryz.func99, Tryz.ntmps99
 go_wp2
 go_ret
 exact ⟨rfl, rfl⟩
theorem beyond_any (T : Int) (w : World) (hT : T = 4096 ∨ T = 256) : Calls Tryz.prog 122 #[shV T] w fun e' w' => e' = .returned (.int .i64 (256 * T)) ∧ Below w.heap.size w w' := by
 rcases hT with rfl | rfl
 all_goals
  first | rw [shV1] | rw [shV2]
  go_enter Tryz.func122, Tryz.ntmps122
  go_wp2
  go_ret
  exact ⟨rfl, (Below.refl _ _).alloc (Nat.le_refl _) _⟩
end Go.Proofs.YtlfionfnpieoiaaGreat
namespace Go.Proofs.YtlfionfnpieoiaaGreat
set_option linter.unusedVariables false
set_option linter.unusedSimpArgs false
open Go.RowKit Go.ChangeShapes Go.WideShapes Go.ChangeAt
end Go.Proofs.YtlfionfnpieoiaaGreat
namespace Go.Proofs.YtlfionfnpieoiaaGreat
set_option linter.unusedVariables false
set_option linter.unusedSimpArgs false
open Go.RowKit Go.ChangeShapes Go.WideShapes Go.ChangeAt
theorem w64_mod (x : Int) (j : Nat) (hj : j ≤ 64) : wrap64 x % 2 ^ j = x % 2 ^ j := by
 rw [← IntWalk.i64_left]
 exact wrap_mod x j hj
theorem Ce.sl {w : World} {b : Nat} (l : List Int) (h : Ce w b (l.map (Value.int .i64))) : Is w (some ⟨b, 0, none⟩) l.length (fun j => l.getD j 0) := by
 refine Sl.mk h.1 fun j hj => ?_
 rw [Nat.zero_add]
 exact h.2.1 j _ (by simp [List.getD, hj])
theorem mask_any (k : Ky) (kd : Int) (f : Fl) (e : Int) (hf : f.I) (hk : I64 kd) (he : I64 e) (w : World) :
 Calls Tryz.prog 126 #[kyV k, .int .i64 kd, flV f, .int .i64 e] w fun e' w' => e' = .returned (.int .i64 (wrap64 (W7 k kd f 64 e))) ∧ Below w.heap.size w w' := by
 have hI := seven_I hf hk (x := 64) ⟨by omega, by omega⟩ he
 unfold kyV flV
 go_enter Tryz.func126, Tryz.ntmps126
 go_wp2_with fail
 refine (re_u64 (words_any k.a k.b _ 7 7 _ _ (row_at .i64 [kd, f.a, f.p, f.ta, f.tp, 64, e] (by simp)) hI (by omega)) (show _ = W7 k kd f 64 e from rfl)).mono ?_
 rintro e' w' ⟨rfl, hb⟩
 have hb0 := ((((Below.refl w.heap.size w).alloc (Nat.le_refl _) _).alloc (by simp) _).alloc (by simp; omega) _).trans (hb.mono (by simp; omega))
 go_wp2_with fail
 go_ret
 exact ⟨rfl, hb0⟩
set_option maxHeartbeats 8000000 in
theorem made1 (k : Ky) (kd : Int) (f : Fl) (x e : Int) (hf : f.I) (hk : I64 kd) (hx : I64 x) (he : I64 e) (w : World) :
 Calls Tryz.prog 98 #[shV 4096, kyV k, .int .i64 kd, flV f, .int .i64 x, .int .i64 e] w fun e' w' => e' = .returned (ptV e (xr (x % 64) (W7 k kd f 64 e % 64)) (W7 k kd f x e % 4096)) ∧ Below w.heap.size w w' := by
 have hI := seven_I hf hk hx he
 rw [shV1]
 unfold kyV flV ptV
 go_enter Tryz.func98, Tryz.ntmps98
 go_wp2_with fail
 have dS : w.heap.size + 1 + 1 + 1 ≠ w.heap.size := by omega
 have dK : w.heap.size + 1 + 1 + 1 ≠ w.heap.size + 1 := by omega
 have dF : w.heap.size + 1 + 1 + 1 ≠ w.heap.size + 1 + 1 := by omega
 have lR : w.heap.size ≤ w.heap.size + 1 + 1 + 1 := by omega
 have CS := Ce.made (w := w) (l := [.int .u64 18, .int .u64 2, .int .u64 12, .int .u64 6, .int .u64 0, .int .u64 12]) (T := 177) (g := w.heap.size) rfl
 replace CS := CS.alloc (.cells #[.int .u64 k.a, .int .u64 k.b] 30)
 have CK := Ce.made (w := (w.alloc (.cells #[.int .u64 18, .int .u64 2, .int .u64 12, .int .u64 6, .int .u64 0, .int .u64 12] 177))) (l := [.int .u64 k.a, .int .u64 k.b]) (T := 30) (g := w.heap.size + 1) (by simp)
 replace CS := CS.alloc (.cells #[.int .i64 f.a, .int .i64 f.p, .int .i64 f.ta, .int .i64 f.tp] 132)
 replace CK := CK.alloc (.cells #[.int .i64 f.a, .int .i64 f.p, .int .i64 f.ta, .int .i64 f.tp] 132)
 have CF := Ce.made (w := ((w.alloc (.cells #[.int .u64 18, .int .u64 2, .int .u64 12, .int .u64 6, .int .u64 0, .int .u64 12] 177)).alloc (.cells #[.int .u64 k.a, .int .u64 k.b] 30))) (l := [.int .i64 f.a, .int .i64 f.p, .int .i64 f.ta, .int .i64 f.tp]) (T := 132) (g := w.heap.size + 1 + 1) (by simp)
 replace CS := CS.alloc (.cells #[.int .i64 0, .int .i64 0, .int .i64 0] 181)
 replace CK := CK.alloc (.cells #[.int .i64 0, .int .i64 0, .int .i64 0] 181)
 replace CF := CF.alloc (.cells #[.int .i64 0, .int .i64 0, .int .i64 0] 181)
 have CR := Ce.made (w := (((w.alloc (.cells #[.int .u64 18, .int .u64 2, .int .u64 12, .int .u64 6, .int .u64 0, .int .u64 12] 177)).alloc (.cells #[.int .u64 k.a, .int .u64 k.b] 30)).alloc (.cells #[.int .i64 f.a, .int .i64 f.p, .int .i64 f.ta, .int .i64 f.tp] 132))) (l := [.int .i64 0, .int .i64 0, .int .i64 0]) (T := 181) (g := w.heap.size + 1 + 1 + 1) (by simp)
 replace CS := CS.alloc (.cells #[.int .i64 kd, .int .i64 f.a, .int .i64 f.p, .int .i64 f.ta, .int .i64 f.tp, .int .i64 x, .int .i64 e] 3)
 replace CK := CK.alloc (.cells #[.int .i64 kd, .int .i64 f.a, .int .i64 f.p, .int .i64 f.ta, .int .i64 f.tp, .int .i64 x, .int .i64 e] 3)
 replace CF := CF.alloc (.cells #[.int .i64 kd, .int .i64 f.a, .int .i64 f.p, .int .i64 f.ta, .int .i64 f.tp, .int .i64 x, .int .i64 e] 3)
 replace CR := CR.alloc (.cells #[.int .i64 kd, .int .i64 f.a, .int .i64 f.p, .int .i64 f.ta, .int .i64 f.tp, .int .i64 x, .int .i64 e] 3)
 have CX := Ce.made (w := ((((w.alloc (.cells #[.int .u64 18, .int .u64 2, .int .u64 12, .int .u64 6, .int .u64 0, .int .u64 12] 177)).alloc (.cells #[.int .u64 k.a, .int .u64 k.b] 30)).alloc (.cells #[.int .i64 f.a, .int .i64 f.p, .int .i64 f.ta, .int .i64 f.tp] 132)).alloc (.cells #[.int .i64 0, .int .i64 0, .int .i64 0] 181))) (l := [.int .i64 kd, .int .i64 f.a, .int .i64 f.p, .int .i64 f.ta, .int .i64 f.tp, .int .i64 x, .int .i64 e]) (T := 3) (g := w.heap.size + 1 + 1 + 1 + 1) (by simp)
 have B : Below w.heap.size w (((((w.alloc (.cells #[.int .u64 18, .int .u64 2, .int .u64 12, .int .u64 6, .int .u64 0, .int .u64 12] 177)).alloc (.cells #[.int .u64 k.a, .int .u64 k.b] 30)).alloc (.cells #[.int .i64 f.a, .int .i64 f.p, .int .i64 f.ta, .int .i64 f.tp] 132)).alloc (.cells #[.int .i64 0, .int .i64 0, .int .i64 0] 181)).alloc (.cells #[.int .i64 kd, .int .i64 f.a, .int .i64 f.p, .int .i64 f.ta, .int .i64 f.tp, .int .i64 x, .int .i64 e] 3)) := ((((((Below.refl w.heap.size w).alloc (by first | exact Nat.le_refl _ | (simp; done) | (simp; omega)) (.cells #[.int .u64 18, .int .u64 2, .int .u64 12, .int .u64 6, .int .u64 0, .int .u64 12] 177)).alloc (by first | exact Nat.le_refl _ | (simp; done) | (simp; omega)) (.cells #[.int .u64 k.a, .int .u64 k.b] 30)).alloc (by first | exact Nat.le_refl _ | (simp; done) | (simp; omega)) (.cells #[.int .i64 f.a, .int .i64 f.p, .int .i64 f.ta, .int .i64 f.tp] 132)).alloc (by first | exact Nat.le_refl _ | (simp; done) | (simp; omega)) (.cells #[.int .i64 0, .int .i64 0, .int .i64 0] 181)).alloc (by first | exact Nat.le_refl _ | (simp; done) | (simp; omega)) (.cells #[.int .i64 kd, .int .i64 f.a, .int .i64 f.p, .int .i64 f.ta, .int .i64 f.tp, .int .i64 x, .int .i64 e] 3))
 generalize ((((w.alloc (.cells #[.int .u64 18, .int .u64 2, .int .u64 12, .int .u64 6, .int .u64 0, .int .u64 12] 177)).alloc (.cells #[.int .u64 k.a, .int .u64 k.b] 30)).alloc (.cells #[.int .i64 f.a, .int .i64 f.p, .int .i64 f.ta, .int .i64 f.tp] 132)).alloc (.cells #[.int .i64 0, .int .i64 0, .int .i64 0] 181)).alloc (.cells #[.int .i64 kd, .int .i64 f.a, .int .i64 f.p, .int .i64 f.ta, .int .i64 f.tp, .int .i64 x, .int .i64 e] 3) = w1 at *
 generalize w.heap.size + 1 + 1 + 1 + 1 = X at *
 generalize w.heap.size + 1 + 1 + 1 = R at *
 generalize w.heap.size + 1 + 1 = F at *
 generalize w.heap.size + 1 = K at *
 generalize hK : w.heap.size = S at *
 refine (re_u64 (words_any k.a k.b (some ⟨X, 0, none⟩) 7 7 _ w1 (Ce.sl [kd, f.a, f.p, f.ta, f.tp, x, e] CX) hI (by omega)) (show _ = W7 k kd f x e from rfl)).mono ?_
 rintro e' w2 ⟨rfl, hb⟩
 replace B := B.trans (hb.mono (Nat.le_of_lt CS.1))
 replace CS := CS.below hb
 replace CK := CK.below hb
 replace CF := CF.below hb
 replace CR := CR.below hb
 clear CX hb
 obtain ⟨kS, qS, zS⟩ := CS
 have cS0 := qS 0 _ rfl
 have cS1 := qS 1 _ rfl
 have cS2 := qS 2 _ rfl
 have cS3 := qS 3 _ rfl
 have cS4 := qS 4 _ rfl
 have cS5 := qS 5 _ rfl
 clear qS zS
 obtain ⟨kK, qK, zK⟩ := CK
 have cK0 := qK 0 _ rfl
 have cK1 := qK 1 _ rfl
 clear qK zK
 obtain ⟨kF, qF, zF⟩ := CF
 have cF0 := qF 0 _ rfl
 have cF1 := qF 1 _ rfl
 have cF2 := qF 2 _ rfl
 have cF3 := qF 3 _ rfl
 clear qF zF
 obtain ⟨kR, qR, zR⟩ := CR
 have cR0 := qR 0 _ rfl
 have cR1 := qR 1 _ rfl
 have cR2 := qR 2 _ rfl
 have zR0 := zR 0
 have zR1 := zR 1
 have zR2 := zR 2
 clear qR zR
 have hx : Hid (bits .xor .i64 x (wrap64 (W7 k kd f 64 e)) % 64 = xr (x % 64) (W7 k kd f 64 e % 64)) := by
  unfold Hid
  rw [xor64, show wrap64 (W7 k kd f 64 e) % 64 = W7 k kd f 64 e % 64 from w64_mod _ 6 (by omega)]
 have hy : Hid (IntKind.i64.wrap (W7 k kd f x e) % 4096 = W7 k kd f x e % 4096) := wrap_mod _ 12 (by omega)
 have M := mask_any k kd f e hf hk he
 unfold kyV flV at M
 replace M := hid M
 go_wp2_with fail
 replace cR0 := cv_of cR0
 replace cR1 := cv_of cR1
 replace cR2 := cv_of cR2
 go_region_held3 (fun w' => w'.cell? ⟨S, 0, none⟩ = some (.int .u64 18) ∧ w'.cell? ⟨S, 1, none⟩ = some (.int .u64 2) ∧ w'.cell? ⟨S, 2, none⟩ = some (.int .u64 12) ∧ w'.cell? ⟨S, 3, none⟩ = some (.int .u64 6) ∧ w'.cell? ⟨S, 4, none⟩ = some (.int .u64 0) ∧ w'.cell? ⟨S, 5, none⟩ = some (.int .u64 12) ∧ w'.cell? ⟨K, 0, none⟩ = some (.int .u64 k.a) ∧ w'.cell? ⟨K, 1, none⟩ = some (.int .u64 k.b) ∧ w'.cell? ⟨F, 0, none⟩ = some (.int .i64 f.a) ∧ w'.cell? ⟨F, 1, none⟩ = some (.int .i64 f.p) ∧ w'.cell? ⟨F, 2, none⟩ = some (.int .i64 f.ta) ∧ w'.cell? ⟨F, 3, none⟩ = some (.int .i64 f.tp) ∧ S < w'.heap.size ∧ K < w'.heap.size ∧ F < w'.heap.size ∧ R < w'.heap.size ∧ w'.cell? ⟨R, 0, none⟩ = some (cv w' R 0) ∧ w'.cell? ⟨R, 1, none⟩ = some (cv w' R 1) ∧ w'.cell? ⟨R, 2, none⟩ = some (cv w' R 2) ∧ w'.frozen? ⟨R, 0, none⟩ = false ∧ w'.frozen? ⟨R, 1, none⟩ = false ∧ w'.frozen? ⟨R, 2, none⟩ = false ∧ Below S w w')
  (first
   | (go_split_ands; refine ⟨?_, ?_, ?_, ?_, ?_, ?_, ?_, ?_, ?_, ?_, ?_, ?_, ?_, ?_, ?_, ?_, ?_, ?_, ?_, ?_, ?_, ?_, ?_⟩; with_reducible exact ((World.cell?_setCell_far _ _ _ _ dS).trans ((World.cell?_setCell_far _ _ _ _ dS).trans ((World.cell?_setCell_far _ _ _ _ dS).trans (by assumption)))); with_reducible exact ((World.cell?_setCell_far _ _ _ _ dS).trans ((World.cell?_setCell_far _ _ _ _ dS).trans ((World.cell?_setCell_far _ _ _ _ dS).trans (by assumption)))); with_reducible exact ((World.cell?_setCell_far _ _ _ _ dS).trans ((World.cell?_setCell_far _ _ _ _ dS).trans ((World.cell?_setCell_far _ _ _ _ dS).trans (by assumption)))); with_reducible exact ((World.cell?_setCell_far _ _ _ _ dS).trans ((World.cell?_setCell_far _ _ _ _ dS).trans ((World.cell?_setCell_far _ _ _ _ dS).trans (by assumption)))); with_reducible exact ((World.cell?_setCell_far _ _ _ _ dS).trans ((World.cell?_setCell_far _ _ _ _ dS).trans ((World.cell?_setCell_far _ _ _ _ dS).trans (by assumption)))); with_reducible exact ((World.cell?_setCell_far _ _ _ _ dS).trans ((World.cell?_setCell_far _ _ _ _ dS).trans ((World.cell?_setCell_far _ _ _ _ dS).trans (by assumption)))); with_reducible exact ((World.cell?_setCell_far _ _ _ _ dK).trans ((World.cell?_setCell_far _ _ _ _ dK).trans ((World.cell?_setCell_far _ _ _ _ dK).trans (by assumption)))); with_reducible exact ((World.cell?_setCell_far _ _ _ _ dK).trans ((World.cell?_setCell_far _ _ _ _ dK).trans ((World.cell?_setCell_far _ _ _ _ dK).trans (by assumption)))); with_reducible exact ((World.cell?_setCell_far _ _ _ _ dF).trans ((World.cell?_setCell_far _ _ _ _ dF).trans ((World.cell?_setCell_far _ _ _ _ dF).trans (by assumption)))); with_reducible exact ((World.cell?_setCell_far _ _ _ _ dF).trans ((World.cell?_setCell_far _ _ _ _ dF).trans ((World.cell?_setCell_far _ _ _ _ dF).trans (by assumption)))); with_reducible exact ((World.cell?_setCell_far _ _ _ _ dF).trans ((World.cell?_setCell_far _ _ _ _ dF).trans ((World.cell?_setCell_far _ _ _ _ dF).trans (by assumption)))); with_reducible exact ((World.cell?_setCell_far _ _ _ _ dF).trans ((World.cell?_setCell_far _ _ _ _ dF).trans ((World.cell?_setCell_far _ _ _ _ dF).trans (by assumption)))); with_reducible exact Nat.lt_of_lt_of_le (by assumption) (Below.setCell (Below.setCell (Below.setCell (Below.refl 0 _) (Nat.zero_le _) _) (Nat.zero_le _) _) (Nat.zero_le _) _).size; with_reducible exact Nat.lt_of_lt_of_le (by assumption) (Below.setCell (Below.setCell (Below.setCell (Below.refl 0 _) (Nat.zero_le _) _) (Nat.zero_le _) _) (Nat.zero_le _) _).size; with_reducible exact Nat.lt_of_lt_of_le (by assumption) (Below.setCell (Below.setCell (Below.setCell (Below.refl 0 _) (Nat.zero_le _) _) (Nat.zero_le _) _) (Nat.zero_le _) _).size; with_reducible exact Nat.lt_of_lt_of_le (by assumption) (Below.setCell (Below.setCell (Below.setCell (Below.refl 0 _) (Nat.zero_le _) _) (Nat.zero_le _) _) (Nat.zero_le _) _).size; with_reducible exact (cv_set (cv_set (cv_set (by assumption)))); with_reducible exact (cv_set (cv_set (cv_set (by assumption)))); with_reducible exact (cv_set (cv_set (cv_set (by assumption)))); (simp only [World.frozen?_setCell]; assumption); (simp only [World.frozen?_setCell]; assumption); (simp only [World.frozen?_setCell]; assumption); with_reducible exact (Below.setCell (Below.setCell (Below.setCell (by assumption) lR _) lR _) lR _))
   | (go_split_ands; refine ⟨?_, ?_, ?_, ?_, ?_, ?_, ?_, ?_, ?_, ?_, ?_, ?_, ?_, ?_, ?_, ?_, ?_, ?_, ?_, ?_, ?_, ?_, ?_⟩; exact (hb5.cell (p := ⟨S, 0, none⟩) (by assumption)).trans (by assumption); exact (hb5.cell (p := ⟨S, 1, none⟩) (by assumption)).trans (by assumption); exact (hb5.cell (p := ⟨S, 2, none⟩) (by assumption)).trans (by assumption); exact (hb5.cell (p := ⟨S, 3, none⟩) (by assumption)).trans (by assumption); exact (hb5.cell (p := ⟨S, 4, none⟩) (by assumption)).trans (by assumption); exact (hb5.cell (p := ⟨S, 5, none⟩) (by assumption)).trans (by assumption); exact (hb5.cell (p := ⟨K, 0, none⟩) (by assumption)).trans (by assumption); exact (hb5.cell (p := ⟨K, 1, none⟩) (by assumption)).trans (by assumption); exact (hb5.cell (p := ⟨F, 0, none⟩) (by assumption)).trans (by assumption); exact (hb5.cell (p := ⟨F, 1, none⟩) (by assumption)).trans (by assumption); exact (hb5.cell (p := ⟨F, 2, none⟩) (by assumption)).trans (by assumption); exact (hb5.cell (p := ⟨F, 3, none⟩) (by assumption)).trans (by assumption); exact Nat.lt_of_lt_of_le (by assumption) hb5.size; exact Nat.lt_of_lt_of_le (by assumption) hb5.size; exact Nat.lt_of_lt_of_le (by assumption) hb5.size; exact Nat.lt_of_lt_of_le (by assumption) hb5.size; exact cv_of ((hb5.cell (p := ⟨R, 0, none⟩) (by assumption)).trans (by assumption)); exact cv_of ((hb5.cell (p := ⟨R, 1, none⟩) (by assumption)).trans (by assumption)); exact cv_of ((hb5.cell (p := ⟨R, 2, none⟩) (by assumption)).trans (by assumption)); exact (World.frozen?_of_block (a := ⟨R, 0, none⟩) (hb5.block R (by assumption))).trans (by assumption); exact (World.frozen?_of_block (a := ⟨R, 1, none⟩) (hb5.block R (by assumption))).trans (by assumption); exact (World.frozen?_of_block (a := ⟨R, 2, none⟩) (hb5.block R (by assumption))).trans (by assumption); exact Below.trans (by assumption) (hb5.mono (by first | exact Nat.le_of_lt (by assumption) | exact Below.size (by assumption))))
   | (refine ⟨?_, ?_, ?_, ?_, ?_, ?_, ?_, ?_, ?_, ?_, ?_, ?_, ?_, ?_, ?_, ?_, ?_, ?_, ?_, ?_, ?_, ?_, ?_⟩; assumption; assumption; assumption; assumption; assumption; assumption; assumption; assumption; assumption; assumption; assumption; assumption; assumption; assumption; assumption; assumption; assumption; assumption; assumption; assumption; assumption; assumption; exact Below.drew (by assumption))
   | (go_split_ands; refine ⟨?_, ?_, ?_, ?_, ?_, ?_, ?_, ?_, ?_, ?_, ?_, ?_, ?_, ?_, ?_, ?_, ?_, ?_, ?_, ?_, ?_, ?_, ?_⟩; exact (World.cell?_alloc_lt _ _ ⟨S, 0, none⟩ (by assumption)).trans (by assumption); exact (World.cell?_alloc_lt _ _ ⟨S, 1, none⟩ (by assumption)).trans (by assumption); exact (World.cell?_alloc_lt _ _ ⟨S, 2, none⟩ (by assumption)).trans (by assumption); exact (World.cell?_alloc_lt _ _ ⟨S, 3, none⟩ (by assumption)).trans (by assumption); exact (World.cell?_alloc_lt _ _ ⟨S, 4, none⟩ (by assumption)).trans (by assumption); exact (World.cell?_alloc_lt _ _ ⟨S, 5, none⟩ (by assumption)).trans (by assumption); exact (World.cell?_alloc_lt _ _ ⟨K, 0, none⟩ (by assumption)).trans (by assumption); exact (World.cell?_alloc_lt _ _ ⟨K, 1, none⟩ (by assumption)).trans (by assumption); exact (World.cell?_alloc_lt _ _ ⟨F, 0, none⟩ (by assumption)).trans (by assumption); exact (World.cell?_alloc_lt _ _ ⟨F, 1, none⟩ (by assumption)).trans (by assumption); exact (World.cell?_alloc_lt _ _ ⟨F, 2, none⟩ (by assumption)).trans (by assumption); exact (World.cell?_alloc_lt _ _ ⟨F, 3, none⟩ (by assumption)).trans (by assumption); (simp; omega); (simp; omega); (simp; omega); (simp; omega); exact cv_of ((World.cell?_alloc_lt _ _ ⟨R, 0, none⟩ (by assumption)).trans (by assumption)); exact cv_of ((World.cell?_alloc_lt _ _ ⟨R, 1, none⟩ (by assumption)).trans (by assumption)); exact cv_of ((World.cell?_alloc_lt _ _ ⟨R, 2, none⟩ (by assumption)).trans (by assumption)); exact (World.frozen?_of_block (a := ⟨R, 0, none⟩) (((Below.refl _ _).alloc (Nat.le_refl _) _).block R (by assumption))).trans (by assumption); exact (World.frozen?_of_block (a := ⟨R, 1, none⟩) (((Below.refl _ _).alloc (Nat.le_refl _) _).block R (by assumption))).trans (by assumption); exact (World.frozen?_of_block (a := ⟨R, 2, none⟩) (((Below.refl _ _).alloc (Nat.le_refl _) _).block R (by assumption))).trans (by assumption); exact Below.alloc (by assumption) (by first | exact Nat.le_of_lt (by assumption) | exact Below.size (by assumption)) _)
   | (go_split_ands; refine ⟨?_, ?_, ?_, ?_, ?_, ?_, ?_, ?_, ?_, ?_, ?_, ?_, ?_, ?_, ?_, ?_, ?_, ?_, ?_, ?_, ?_, ?_, ?_⟩; assumption; assumption; assumption; assumption; assumption; assumption; assumption; assumption; assumption; assumption; assumption; assumption; assumption; assumption; assumption; assumption; assumption; assumption; assumption; assumption; assumption; assumption; assumption)
   | go_keep)
  ((first
    | (go_at_call 126
       go_split_ands
       with_reducible refine (M.out _).mono ?_
       rintro e5 w5 ⟨rfl, hb5⟩)
    | (go_at_call 125
       go_split_ands
       with_reducible refine (cutI 12 6 _ _ ?_).mono ?_
       ·decide
       rintro e5 w5 ⟨rfl, hb5⟩)
    | (go_at_call 125
       go_split_ands
       with_reducible refine (cutI 0 12 _ _ ?_).mono ?_
       ·decide
       rintro e5 w5 ⟨rfl, hb5⟩)))
 all_goals
  go_split_ands
  go_wp2_with fail
  have T := set3 (R := R) (by assumption) (by assumption) (by assumption)
  obtain ⟨t0, t1, t2⟩ := T
  refine at_world (fun w9 => w9.cell? ⟨R, 0, none⟩ = some (.int .i64 e) ∧ w9.cell? ⟨R, 1, none⟩ = some (.int .i64 (xr (x % 64) (W7 k kd f 64 e % 64))) ∧ w9.cell? ⟨R, 2, none⟩ = some (.int .i64 (W7 k kd f x e % 4096)) ∧ Below S w w9) ⟨t0, t1.trans (by rw [hx.out]), t2.trans (by rw [hy.out]), by assumption⟩ ?_
  clear t0 t1 t2
  rintro w9 ⟨t0, t1, t2, hb9⟩
  refine bodyPost_ret (v := .agg #[.int .i64 e, .int .i64 (xr (x % 64) (W7 k kd f 64 e % 64)), .int .i64 (W7 k kd f x e % 4096)]) (by simp [results, Tryz.results98, go_sem, t0, t1, t2]) rfl ⟨rfl, ?_⟩
  rw [hK]
  exact hb9
set_option maxHeartbeats 8000000 in
theorem made2 (k : Ky) (kd : Int) (f : Fl) (x e : Int) (hf : f.I) (hk : I64 kd) (hx : I64 x) (he : I64 e) (w : World) :
 Calls Tryz.prog 98 #[shV 256, kyV k, .int .i64 kd, flV f, .int .i64 x, .int .i64 e] w fun e' w' => e' = .returned (ptV e (xr (x % 64) (W7 k kd f 64 e % 64)) (W7 k kd f x e % 256)) ∧ Below w.heap.size w w' := by
 have hI := seven_I hf hk hx he
 rw [shV2]
 unfold kyV flV ptV
 go_enter Tryz.func98, Tryz.ntmps98
 go_wp2_with fail
 have dS : w.heap.size + 1 + 1 + 1 ≠ w.heap.size := by omega
 have dK : w.heap.size + 1 + 1 + 1 ≠ w.heap.size + 1 := by omega
 have dF : w.heap.size + 1 + 1 + 1 ≠ w.heap.size + 1 + 1 := by omega
 have lR : w.heap.size ≤ w.heap.size + 1 + 1 + 1 := by omega
 have CS := Ce.made (w := w) (l := [.int .u64 14, .int .u64 2, .int .u64 8, .int .u64 6, .int .u64 0, .int .u64 8]) (T := 177) (g := w.heap.size) rfl
 replace CS := CS.alloc (.cells #[.int .u64 k.a, .int .u64 k.b] 30)
 have CK := Ce.made (w := (w.alloc (.cells #[.int .u64 14, .int .u64 2, .int .u64 8, .int .u64 6, .int .u64 0, .int .u64 8] 177))) (l := [.int .u64 k.a, .int .u64 k.b]) (T := 30) (g := w.heap.size + 1) (by simp)
 replace CS := CS.alloc (.cells #[.int .i64 f.a, .int .i64 f.p, .int .i64 f.ta, .int .i64 f.tp] 132)
 replace CK := CK.alloc (.cells #[.int .i64 f.a, .int .i64 f.p, .int .i64 f.ta, .int .i64 f.tp] 132)
 have CF := Ce.made (w := ((w.alloc (.cells #[.int .u64 14, .int .u64 2, .int .u64 8, .int .u64 6, .int .u64 0, .int .u64 8] 177)).alloc (.cells #[.int .u64 k.a, .int .u64 k.b] 30))) (l := [.int .i64 f.a, .int .i64 f.p, .int .i64 f.ta, .int .i64 f.tp]) (T := 132) (g := w.heap.size + 1 + 1) (by simp)
 replace CS := CS.alloc (.cells #[.int .i64 0, .int .i64 0, .int .i64 0] 181)
 replace CK := CK.alloc (.cells #[.int .i64 0, .int .i64 0, .int .i64 0] 181)
 replace CF := CF.alloc (.cells #[.int .i64 0, .int .i64 0, .int .i64 0] 181)
 have CR := Ce.made (w := (((w.alloc (.cells #[.int .u64 14, .int .u64 2, .int .u64 8, .int .u64 6, .int .u64 0, .int .u64 8] 177)).alloc (.cells #[.int .u64 k.a, .int .u64 k.b] 30)).alloc (.cells #[.int .i64 f.a, .int .i64 f.p, .int .i64 f.ta, .int .i64 f.tp] 132))) (l := [.int .i64 0, .int .i64 0, .int .i64 0]) (T := 181) (g := w.heap.size + 1 + 1 + 1) (by simp)
 replace CS := CS.alloc (.cells #[.int .i64 kd, .int .i64 f.a, .int .i64 f.p, .int .i64 f.ta, .int .i64 f.tp, .int .i64 x, .int .i64 e] 3)
 replace CK := CK.alloc (.cells #[.int .i64 kd, .int .i64 f.a, .int .i64 f.p, .int .i64 f.ta, .int .i64 f.tp, .int .i64 x, .int .i64 e] 3)
 replace CF := CF.alloc (.cells #[.int .i64 kd, .int .i64 f.a, .int .i64 f.p, .int .i64 f.ta, .int .i64 f.tp, .int .i64 x, .int .i64 e] 3)
 replace CR := CR.alloc (.cells #[.int .i64 kd, .int .i64 f.a, .int .i64 f.p, .int .i64 f.ta, .int .i64 f.tp, .int .i64 x, .int .i64 e] 3)
 have CX := Ce.made (w := ((((w.alloc (.cells #[.int .u64 14, .int .u64 2, .int .u64 8, .int .u64 6, .int .u64 0, .int .u64 8] 177)).alloc (.cells #[.int .u64 k.a, .int .u64 k.b] 30)).alloc (.cells #[.int .i64 f.a, .int .i64 f.p, .int .i64 f.ta, .int .i64 f.tp] 132)).alloc (.cells #[.int .i64 0, .int .i64 0, .int .i64 0] 181))) (l := [.int .i64 kd, .int .i64 f.a, .int .i64 f.p, .int .i64 f.ta, .int .i64 f.tp, .int .i64 x, .int .i64 e]) (T := 3) (g := w.heap.size + 1 + 1 + 1 + 1) (by simp)
 have B : Below w.heap.size w (((((w.alloc (.cells #[.int .u64 14, .int .u64 2, .int .u64 8, .int .u64 6, .int .u64 0, .int .u64 8] 177)).alloc (.cells #[.int .u64 k.a, .int .u64 k.b] 30)).alloc (.cells #[.int .i64 f.a, .int .i64 f.p, .int .i64 f.ta, .int .i64 f.tp] 132)).alloc (.cells #[.int .i64 0, .int .i64 0, .int .i64 0] 181)).alloc (.cells #[.int .i64 kd, .int .i64 f.a, .int .i64 f.p, .int .i64 f.ta, .int .i64 f.tp, .int .i64 x, .int .i64 e] 3)) := ((((((Below.refl w.heap.size w).alloc (by first | exact Nat.le_refl _ | (simp; done) | (simp; omega)) (.cells #[.int .u64 14, .int .u64 2, .int .u64 8, .int .u64 6, .int .u64 0, .int .u64 8] 177)).alloc (by first | exact Nat.le_refl _ | (simp; done) | (simp; omega)) (.cells #[.int .u64 k.a, .int .u64 k.b] 30)).alloc (by first | exact Nat.le_refl _ | (simp; done) | (simp; omega)) (.cells #[.int .i64 f.a, .int .i64 f.p, .int .i64 f.ta, .int .i64 f.tp] 132)).alloc (by first | exact Nat.le_refl _ | (simp; done) | (simp; omega)) (.cells #[.int .i64 0, .int .i64 0, .int .i64 0] 181)).alloc (by first | exact Nat.le_refl _ | (simp; done) | (simp; omega)) (.cells #[.int .i64 kd, .int .i64 f.a, .int .i64 f.p, .int .i64 f.ta, .int .i64 f.tp, .int .i64 x, .int .i64 e] 3))
 generalize ((((w.alloc (.cells #[.int .u64 14, .int .u64 2, .int .u64 8, .int .u64 6, .int .u64 0, .int .u64 8] 177)).alloc (.cells #[.int .u64 k.a, .int .u64 k.b] 30)).alloc (.cells #[.int .i64 f.a, .int .i64 f.p, .int .i64 f.ta, .int .i64 f.tp] 132)).alloc (.cells #[.int .i64 0, .int .i64 0, .int .i64 0] 181)).alloc (.cells #[.int .i64 kd, .int .i64 f.a, .int .i64 f.p, .int .i64 f.ta, .int .i64 f.tp, .int .i64 x, .int .i64 e] 3) = w1 at *
 generalize w.heap.size + 1 + 1 + 1 + 1 = X at *
 generalize w.heap.size + 1 + 1 + 1 = R at *
 generalize w.heap.size + 1 + 1 = F at *
 generalize w.heap.size + 1 = K at *
 generalize hK : w.heap.size = S at *
 refine (re_u64 (words_any k.a k.b (some ⟨X, 0, none⟩) 7 7 _ w1 (Ce.sl [kd, f.a, f.p, f.ta, f.tp, x, e] CX) hI (by omega)) (show _ = W7 k kd f x e from rfl)).mono ?_
 rintro e' w2 ⟨rfl, hb⟩
 replace B := B.trans (hb.mono (Nat.le_of_lt CS.1))
 replace CS := CS.below hb
 replace CK := CK.below hb
 replace CF := CF.below hb
 replace CR := CR.below hb
 clear CX hb
 obtain ⟨kS, qS, zS⟩ := CS
 have cS0 := qS 0 _ rfl
 have cS1 := qS 1 _ rfl
 have cS2 := qS 2 _ rfl
 have cS3 := qS 3 _ rfl
 have cS4 := qS 4 _ rfl
 have cS5 := qS 5 _ rfl
 clear qS zS
 obtain ⟨kK, qK, zK⟩ := CK
 have cK0 := qK 0 _ rfl
 have cK1 := qK 1 _ rfl
 clear qK zK
 obtain ⟨kF, qF, zF⟩ := CF
 have cF0 := qF 0 _ rfl
 have cF1 := qF 1 _ rfl
 have cF2 := qF 2 _ rfl
 have cF3 := qF 3 _ rfl
 clear qF zF
 obtain ⟨kR, qR, zR⟩ := CR
 have cR0 := qR 0 _ rfl
 have cR1 := qR 1 _ rfl
 have cR2 := qR 2 _ rfl
 have zR0 := zR 0
 have zR1 := zR 1
 have zR2 := zR 2
 clear qR zR
 have hx : Hid (bits .xor .i64 x (wrap64 (W7 k kd f 64 e)) % 64 = xr (x % 64) (W7 k kd f 64 e % 64)) := by
  unfold Hid
  rw [xor64, show wrap64 (W7 k kd f 64 e) % 64 = W7 k kd f 64 e % 64 from w64_mod _ 6 (by omega)]
 have hy : Hid (IntKind.i64.wrap (W7 k kd f x e) % 256 = W7 k kd f x e % 256) := wrap_mod _ 8 (by omega)
 have M := mask_any k kd f e hf hk he
 unfold kyV flV at M
 replace M := hid M
 go_wp2_with fail
 replace cR0 := cv_of cR0
 replace cR1 := cv_of cR1
 replace cR2 := cv_of cR2
 go_region_held3 (fun w' => w'.cell? ⟨S, 0, none⟩ = some (.int .u64 14) ∧ w'.cell? ⟨S, 1, none⟩ = some (.int .u64 2) ∧ w'.cell? ⟨S, 2, none⟩ = some (.int .u64 8) ∧ w'.cell? ⟨S, 3, none⟩ = some (.int .u64 6) ∧ w'.cell? ⟨S, 4, none⟩ = some (.int .u64 0) ∧ w'.cell? ⟨S, 5, none⟩ = some (.int .u64 8) ∧ w'.cell? ⟨K, 0, none⟩ = some (.int .u64 k.a) ∧ w'.cell? ⟨K, 1, none⟩ = some (.int .u64 k.b) ∧ w'.cell? ⟨F, 0, none⟩ = some (.int .i64 f.a) ∧ w'.cell? ⟨F, 1, none⟩ = some (.int .i64 f.p) ∧ w'.cell? ⟨F, 2, none⟩ = some (.int .i64 f.ta) ∧ w'.cell? ⟨F, 3, none⟩ = some (.int .i64 f.tp) ∧ S < w'.heap.size ∧ K < w'.heap.size ∧ F < w'.heap.size ∧ R < w'.heap.size ∧ w'.cell? ⟨R, 0, none⟩ = some (cv w' R 0) ∧ w'.cell? ⟨R, 1, none⟩ = some (cv w' R 1) ∧ w'.cell? ⟨R, 2, none⟩ = some (cv w' R 2) ∧ w'.frozen? ⟨R, 0, none⟩ = false ∧ w'.frozen? ⟨R, 1, none⟩ = false ∧ w'.frozen? ⟨R, 2, none⟩ = false ∧ Below S w w')
  (first
   | (go_split_ands; refine ⟨?_, ?_, ?_, ?_, ?_, ?_, ?_, ?_, ?_, ?_, ?_, ?_, ?_, ?_, ?_, ?_, ?_, ?_, ?_, ?_, ?_, ?_, ?_⟩; with_reducible exact ((World.cell?_setCell_far _ _ _ _ dS).trans ((World.cell?_setCell_far _ _ _ _ dS).trans ((World.cell?_setCell_far _ _ _ _ dS).trans (by assumption)))); with_reducible exact ((World.cell?_setCell_far _ _ _ _ dS).trans ((World.cell?_setCell_far _ _ _ _ dS).trans ((World.cell?_setCell_far _ _ _ _ dS).trans (by assumption)))); with_reducible exact ((World.cell?_setCell_far _ _ _ _ dS).trans ((World.cell?_setCell_far _ _ _ _ dS).trans ((World.cell?_setCell_far _ _ _ _ dS).trans (by assumption)))); with_reducible exact ((World.cell?_setCell_far _ _ _ _ dS).trans ((World.cell?_setCell_far _ _ _ _ dS).trans ((World.cell?_setCell_far _ _ _ _ dS).trans (by assumption)))); with_reducible exact ((World.cell?_setCell_far _ _ _ _ dS).trans ((World.cell?_setCell_far _ _ _ _ dS).trans ((World.cell?_setCell_far _ _ _ _ dS).trans (by assumption)))); with_reducible exact ((World.cell?_setCell_far _ _ _ _ dS).trans ((World.cell?_setCell_far _ _ _ _ dS).trans ((World.cell?_setCell_far _ _ _ _ dS).trans (by assumption)))); with_reducible exact ((World.cell?_setCell_far _ _ _ _ dK).trans ((World.cell?_setCell_far _ _ _ _ dK).trans ((World.cell?_setCell_far _ _ _ _ dK).trans (by assumption)))); with_reducible exact ((World.cell?_setCell_far _ _ _ _ dK).trans ((World.cell?_setCell_far _ _ _ _ dK).trans ((World.cell?_setCell_far _ _ _ _ dK).trans (by assumption)))); with_reducible exact ((World.cell?_setCell_far _ _ _ _ dF).trans ((World.cell?_setCell_far _ _ _ _ dF).trans ((World.cell?_setCell_far _ _ _ _ dF).trans (by assumption)))); with_reducible exact ((World.cell?_setCell_far _ _ _ _ dF).trans ((World.cell?_setCell_far _ _ _ _ dF).trans ((World.cell?_setCell_far _ _ _ _ dF).trans (by assumption)))); with_reducible exact ((World.cell?_setCell_far _ _ _ _ dF).trans ((World.cell?_setCell_far _ _ _ _ dF).trans ((World.cell?_setCell_far _ _ _ _ dF).trans (by assumption)))); with_reducible exact ((World.cell?_setCell_far _ _ _ _ dF).trans ((World.cell?_setCell_far _ _ _ _ dF).trans ((World.cell?_setCell_far _ _ _ _ dF).trans (by assumption)))); with_reducible exact Nat.lt_of_lt_of_le (by assumption) (Below.setCell (Below.setCell (Below.setCell (Below.refl 0 _) (Nat.zero_le _) _) (Nat.zero_le _) _) (Nat.zero_le _) _).size; with_reducible exact Nat.lt_of_lt_of_le (by assumption) (Below.setCell (Below.setCell (Below.setCell (Below.refl 0 _) (Nat.zero_le _) _) (Nat.zero_le _) _) (Nat.zero_le _) _).size; with_reducible exact Nat.lt_of_lt_of_le (by assumption) (Below.setCell (Below.setCell (Below.setCell (Below.refl 0 _) (Nat.zero_le _) _) (Nat.zero_le _) _) (Nat.zero_le _) _).size; with_reducible exact Nat.lt_of_lt_of_le (by assumption) (Below.setCell (Below.setCell (Below.setCell (Below.refl 0 _) (Nat.zero_le _) _) (Nat.zero_le _) _) (Nat.zero_le _) _).size; with_reducible exact (cv_set (cv_set (cv_set (by assumption)))); with_reducible exact (cv_set (cv_set (cv_set (by assumption)))); with_reducible exact (cv_set (cv_set (cv_set (by assumption)))); (simp only [World.frozen?_setCell]; assumption); (simp only [World.frozen?_setCell]; assumption); (simp only [World.frozen?_setCell]; assumption); with_reducible exact (Below.setCell (Below.setCell (Below.setCell (by assumption) lR _) lR _) lR _))
   | (go_split_ands; refine ⟨?_, ?_, ?_, ?_, ?_, ?_, ?_, ?_, ?_, ?_, ?_, ?_, ?_, ?_, ?_, ?_, ?_, ?_, ?_, ?_, ?_, ?_, ?_⟩; exact (hb5.cell (p := ⟨S, 0, none⟩) (by assumption)).trans (by assumption); exact (hb5.cell (p := ⟨S, 1, none⟩) (by assumption)).trans (by assumption); exact (hb5.cell (p := ⟨S, 2, none⟩) (by assumption)).trans (by assumption); exact (hb5.cell (p := ⟨S, 3, none⟩) (by assumption)).trans (by assumption); exact (hb5.cell (p := ⟨S, 4, none⟩) (by assumption)).trans (by assumption); exact (hb5.cell (p := ⟨S, 5, none⟩) (by assumption)).trans (by assumption); exact (hb5.cell (p := ⟨K, 0, none⟩) (by assumption)).trans (by assumption); exact (hb5.cell (p := ⟨K, 1, none⟩) (by assumption)).trans (by assumption); exact (hb5.cell (p := ⟨F, 0, none⟩) (by assumption)).trans (by assumption); exact (hb5.cell (p := ⟨F, 1, none⟩) (by assumption)).trans (by assumption); exact (hb5.cell (p := ⟨F, 2, none⟩) (by assumption)).trans (by assumption); exact (hb5.cell (p := ⟨F, 3, none⟩) (by assumption)).trans (by assumption); exact Nat.lt_of_lt_of_le (by assumption) hb5.size; exact Nat.lt_of_lt_of_le (by assumption) hb5.size; exact Nat.lt_of_lt_of_le (by assumption) hb5.size; exact Nat.lt_of_lt_of_le (by assumption) hb5.size; exact cv_of ((hb5.cell (p := ⟨R, 0, none⟩) (by assumption)).trans (by assumption)); exact cv_of ((hb5.cell (p := ⟨R, 1, none⟩) (by assumption)).trans (by assumption)); exact cv_of ((hb5.cell (p := ⟨R, 2, none⟩) (by assumption)).trans (by assumption)); exact (World.frozen?_of_block (a := ⟨R, 0, none⟩) (hb5.block R (by assumption))).trans (by assumption); exact (World.frozen?_of_block (a := ⟨R, 1, none⟩) (hb5.block R (by assumption))).trans (by assumption); exact (World.frozen?_of_block (a := ⟨R, 2, none⟩) (hb5.block R (by assumption))).trans (by assumption); exact Below.trans (by assumption) (hb5.mono (by first | exact Nat.le_of_lt (by assumption) | exact Below.size (by assumption))))
   | (refine ⟨?_, ?_, ?_, ?_, ?_, ?_, ?_, ?_, ?_, ?_, ?_, ?_, ?_, ?_, ?_, ?_, ?_, ?_, ?_, ?_, ?_, ?_, ?_⟩; assumption; assumption; assumption; assumption; assumption; assumption; assumption; assumption; assumption; assumption; assumption; assumption; assumption; assumption; assumption; assumption; assumption; assumption; assumption; assumption; assumption; assumption; exact Below.drew (by assumption))
   | (go_split_ands; refine ⟨?_, ?_, ?_, ?_, ?_, ?_, ?_, ?_, ?_, ?_, ?_, ?_, ?_, ?_, ?_, ?_, ?_, ?_, ?_, ?_, ?_, ?_, ?_⟩; exact (World.cell?_alloc_lt _ _ ⟨S, 0, none⟩ (by assumption)).trans (by assumption); exact (World.cell?_alloc_lt _ _ ⟨S, 1, none⟩ (by assumption)).trans (by assumption); exact (World.cell?_alloc_lt _ _ ⟨S, 2, none⟩ (by assumption)).trans (by assumption); exact (World.cell?_alloc_lt _ _ ⟨S, 3, none⟩ (by assumption)).trans (by assumption); exact (World.cell?_alloc_lt _ _ ⟨S, 4, none⟩ (by assumption)).trans (by assumption); exact (World.cell?_alloc_lt _ _ ⟨S, 5, none⟩ (by assumption)).trans (by assumption); exact (World.cell?_alloc_lt _ _ ⟨K, 0, none⟩ (by assumption)).trans (by assumption); exact (World.cell?_alloc_lt _ _ ⟨K, 1, none⟩ (by assumption)).trans (by assumption); exact (World.cell?_alloc_lt _ _ ⟨F, 0, none⟩ (by assumption)).trans (by assumption); exact (World.cell?_alloc_lt _ _ ⟨F, 1, none⟩ (by assumption)).trans (by assumption); exact (World.cell?_alloc_lt _ _ ⟨F, 2, none⟩ (by assumption)).trans (by assumption); exact (World.cell?_alloc_lt _ _ ⟨F, 3, none⟩ (by assumption)).trans (by assumption); (simp; omega); (simp; omega); (simp; omega); (simp; omega); exact cv_of ((World.cell?_alloc_lt _ _ ⟨R, 0, none⟩ (by assumption)).trans (by assumption)); exact cv_of ((World.cell?_alloc_lt _ _ ⟨R, 1, none⟩ (by assumption)).trans (by assumption)); exact cv_of ((World.cell?_alloc_lt _ _ ⟨R, 2, none⟩ (by assumption)).trans (by assumption)); exact (World.frozen?_of_block (a := ⟨R, 0, none⟩) (((Below.refl _ _).alloc (Nat.le_refl _) _).block R (by assumption))).trans (by assumption); exact (World.frozen?_of_block (a := ⟨R, 1, none⟩) (((Below.refl _ _).alloc (Nat.le_refl _) _).block R (by assumption))).trans (by assumption); exact (World.frozen?_of_block (a := ⟨R, 2, none⟩) (((Below.refl _ _).alloc (Nat.le_refl _) _).block R (by assumption))).trans (by assumption); exact Below.alloc (by assumption) (by first | exact Nat.le_of_lt (by assumption) | exact Below.size (by assumption)) _)
   | (go_split_ands; refine ⟨?_, ?_, ?_, ?_, ?_, ?_, ?_, ?_, ?_, ?_, ?_, ?_, ?_, ?_, ?_, ?_, ?_, ?_, ?_, ?_, ?_, ?_, ?_⟩; assumption; assumption; assumption; assumption; assumption; assumption; assumption; assumption; assumption; assumption; assumption; assumption; assumption; assumption; assumption; assumption; assumption; assumption; assumption; assumption; assumption; assumption; assumption)
   | go_keep)
  ((first
    | (go_at_call 126
       go_split_ands
       with_reducible refine (M.out _).mono ?_
       rintro e5 w5 ⟨rfl, hb5⟩)
    | (go_at_call 125
       go_split_ands
       with_reducible refine (cutI 8 6 _ _ ?_).mono ?_
       ·decide
       rintro e5 w5 ⟨rfl, hb5⟩)
    | (go_at_call 125
       go_split_ands
       with_reducible refine (cutI 0 8 _ _ ?_).mono ?_
       ·decide
       rintro e5 w5 ⟨rfl, hb5⟩)))
 all_goals
  go_split_ands
  go_wp2_with fail
  have T := set3 (R := R) (by assumption) (by assumption) (by assumption)
  obtain ⟨t0, t1, t2⟩ := T
  refine at_world (fun w9 => w9.cell? ⟨R, 0, none⟩ = some (.int .i64 e) ∧ w9.cell? ⟨R, 1, none⟩ = some (.int .i64 (xr (x % 64) (W7 k kd f 64 e % 64))) ∧ w9.cell? ⟨R, 2, none⟩ = some (.int .i64 (W7 k kd f x e % 256)) ∧ Below S w w9) ⟨t0, t1.trans (by rw [hx.out]), t2.trans (by rw [hy.out]), by assumption⟩ ?_
  clear t0 t1 t2
  rintro w9 ⟨t0, t1, t2, hb9⟩
  refine bodyPost_ret (v := .agg #[.int .i64 e, .int .i64 (xr (x % 64) (W7 k kd f 64 e % 64)), .int .i64 (W7 k kd f x e % 256)]) (by simp [results, Tryz.results98, go_sem, t0, t1, t2]) rfl ⟨rfl, ?_⟩
  rw [hK]
  exact hb9
end Go.Proofs.YtlfionfnpieoiaaGreat
namespace Go.Proofs.YtlfionfnpieoiaaGreat
set_option linter.unusedVariables false
set_option linter.unusedSimpArgs false
open Go.RowKit Go.ChangeShapes Go.WideShapes Go.ChangeAt
theorem apart1 (c : Int) (w : World) :
 Calls Tryz.prog 123 #[shV 4096, .int .i64 c] w fun e' w' => e' = .returned (ptV (c / (64 * 4096) % 4) (c / 4096 % 64) (c % 4096)) ∧ Below w.heap.size w w' := by
 rw [shV1]
 unfold ptV
 go_enter Tryz.func123, Tryz.ntmps123
 go_wp2_with fail
 have dS : w.heap.size + 1 ≠ w.heap.size := by omega
 have lR : w.heap.size ≤ w.heap.size + 1 := by omega
 have CS := Ce.made (w := w) (l := [.int .u64 18, .int .u64 2, .int .u64 12, .int .u64 6, .int .u64 0, .int .u64 12]) (T := 177) (g := w.heap.size) rfl
 replace CS := CS.alloc (.cells #[.int .i64 0, .int .i64 0, .int .i64 0] 181)
 have CR := Ce.made (w := (w.alloc (.cells #[.int .u64 18, .int .u64 2, .int .u64 12, .int .u64 6, .int .u64 0, .int .u64 12] 177))) (l := [.int .i64 0, .int .i64 0, .int .i64 0]) (T := 181) (g := w.heap.size + 1) (by simp)
 have B : Below w.heap.size w ((w.alloc (.cells #[.int .u64 18, .int .u64 2, .int .u64 12, .int .u64 6, .int .u64 0, .int .u64 12] 177)).alloc (.cells #[.int .i64 0, .int .i64 0, .int .i64 0] 181)) := (((Below.refl w.heap.size w).alloc (by first | exact Nat.le_refl _ | (simp; done) | (simp; omega)) (.cells #[.int .u64 18, .int .u64 2, .int .u64 12, .int .u64 6, .int .u64 0, .int .u64 12] 177)).alloc (by first | exact Nat.le_refl _ | (simp; done) | (simp; omega)) (.cells #[.int .i64 0, .int .i64 0, .int .i64 0] 181))
 generalize (w.alloc (.cells #[.int .u64 18, .int .u64 2, .int .u64 12, .int .u64 6, .int .u64 0, .int .u64 12] 177)).alloc (.cells #[.int .i64 0, .int .i64 0, .int .i64 0] 181) = w1 at *
 generalize w.heap.size + 1 = R at *
 generalize hK : w.heap.size = S at *
 obtain ⟨kS, qS, zS⟩ := CS
 have cS0 := qS 0 _ rfl
 have cS1 := qS 1 _ rfl
 have cS2 := qS 2 _ rfl
 have cS3 := qS 3 _ rfl
 have cS4 := qS 4 _ rfl
 have cS5 := qS 5 _ rfl
 clear qS zS
 obtain ⟨kR, qR, zR⟩ := CR
 have cR0 := qR 0 _ rfl
 have cR1 := qR 1 _ rfl
 have cR2 := qR 2 _ rfl
 have zR0 := zR 0
 have zR1 := zR 1
 have zR2 := zR 2
 clear qR zR
 replace cR0 := cv_of cR0
 replace cR1 := cv_of cR1
 replace cR2 := cv_of cR2
 go_region_held3 (fun w' => w'.cell? ⟨S, 0, none⟩ = some (.int .u64 18) ∧ w'.cell? ⟨S, 1, none⟩ = some (.int .u64 2) ∧ w'.cell? ⟨S, 2, none⟩ = some (.int .u64 12) ∧ w'.cell? ⟨S, 3, none⟩ = some (.int .u64 6) ∧ w'.cell? ⟨S, 4, none⟩ = some (.int .u64 0) ∧ w'.cell? ⟨S, 5, none⟩ = some (.int .u64 12) ∧ S < w'.heap.size ∧ R < w'.heap.size ∧ w'.cell? ⟨R, 0, none⟩ = some (cv w' R 0) ∧ w'.cell? ⟨R, 1, none⟩ = some (cv w' R 1) ∧ w'.cell? ⟨R, 2, none⟩ = some (cv w' R 2) ∧ w'.frozen? ⟨R, 0, none⟩ = false ∧ w'.frozen? ⟨R, 1, none⟩ = false ∧ w'.frozen? ⟨R, 2, none⟩ = false ∧ Below S w w')
  (first
   | (go_split_ands; refine ⟨?_, ?_, ?_, ?_, ?_, ?_, ?_, ?_, ?_, ?_, ?_, ?_, ?_, ?_, ?_⟩; with_reducible exact ((World.cell?_setCell_far _ _ _ _ dS).trans ((World.cell?_setCell_far _ _ _ _ dS).trans ((World.cell?_setCell_far _ _ _ _ dS).trans (by assumption)))); with_reducible exact ((World.cell?_setCell_far _ _ _ _ dS).trans ((World.cell?_setCell_far _ _ _ _ dS).trans ((World.cell?_setCell_far _ _ _ _ dS).trans (by assumption)))); with_reducible exact ((World.cell?_setCell_far _ _ _ _ dS).trans ((World.cell?_setCell_far _ _ _ _ dS).trans ((World.cell?_setCell_far _ _ _ _ dS).trans (by assumption)))); with_reducible exact ((World.cell?_setCell_far _ _ _ _ dS).trans ((World.cell?_setCell_far _ _ _ _ dS).trans ((World.cell?_setCell_far _ _ _ _ dS).trans (by assumption)))); with_reducible exact ((World.cell?_setCell_far _ _ _ _ dS).trans ((World.cell?_setCell_far _ _ _ _ dS).trans ((World.cell?_setCell_far _ _ _ _ dS).trans (by assumption)))); with_reducible exact ((World.cell?_setCell_far _ _ _ _ dS).trans ((World.cell?_setCell_far _ _ _ _ dS).trans ((World.cell?_setCell_far _ _ _ _ dS).trans (by assumption)))); with_reducible exact Nat.lt_of_lt_of_le (by assumption) (Below.setCell (Below.setCell (Below.setCell (Below.refl 0 _) (Nat.zero_le _) _) (Nat.zero_le _) _) (Nat.zero_le _) _).size; with_reducible exact Nat.lt_of_lt_of_le (by assumption) (Below.setCell (Below.setCell (Below.setCell (Below.refl 0 _) (Nat.zero_le _) _) (Nat.zero_le _) _) (Nat.zero_le _) _).size; with_reducible exact (cv_set (cv_set (cv_set (by assumption)))); with_reducible exact (cv_set (cv_set (cv_set (by assumption)))); with_reducible exact (cv_set (cv_set (cv_set (by assumption)))); (simp only [World.frozen?_setCell]; assumption); (simp only [World.frozen?_setCell]; assumption); (simp only [World.frozen?_setCell]; assumption); with_reducible exact (Below.setCell (Below.setCell (Below.setCell (by assumption) lR _) lR _) lR _))
   | (go_split_ands; refine ⟨?_, ?_, ?_, ?_, ?_, ?_, ?_, ?_, ?_, ?_, ?_, ?_, ?_, ?_, ?_⟩; exact (hb5.cell (p := ⟨S, 0, none⟩) (by assumption)).trans (by assumption); exact (hb5.cell (p := ⟨S, 1, none⟩) (by assumption)).trans (by assumption); exact (hb5.cell (p := ⟨S, 2, none⟩) (by assumption)).trans (by assumption); exact (hb5.cell (p := ⟨S, 3, none⟩) (by assumption)).trans (by assumption); exact (hb5.cell (p := ⟨S, 4, none⟩) (by assumption)).trans (by assumption); exact (hb5.cell (p := ⟨S, 5, none⟩) (by assumption)).trans (by assumption); exact Nat.lt_of_lt_of_le (by assumption) hb5.size; exact Nat.lt_of_lt_of_le (by assumption) hb5.size; exact cv_of ((hb5.cell (p := ⟨R, 0, none⟩) (by assumption)).trans (by assumption)); exact cv_of ((hb5.cell (p := ⟨R, 1, none⟩) (by assumption)).trans (by assumption)); exact cv_of ((hb5.cell (p := ⟨R, 2, none⟩) (by assumption)).trans (by assumption)); exact (World.frozen?_of_block (a := ⟨R, 0, none⟩) (hb5.block R (by assumption))).trans (by assumption); exact (World.frozen?_of_block (a := ⟨R, 1, none⟩) (hb5.block R (by assumption))).trans (by assumption); exact (World.frozen?_of_block (a := ⟨R, 2, none⟩) (hb5.block R (by assumption))).trans (by assumption); exact Below.trans (by assumption) (hb5.mono (by first | exact Nat.le_of_lt (by assumption) | exact Below.size (by assumption))))
   | (refine ⟨?_, ?_, ?_, ?_, ?_, ?_, ?_, ?_, ?_, ?_, ?_, ?_, ?_, ?_, ?_⟩; assumption; assumption; assumption; assumption; assumption; assumption; assumption; assumption; assumption; assumption; assumption; assumption; assumption; assumption; exact Below.drew (by assumption))
   | (go_split_ands; refine ⟨?_, ?_, ?_, ?_, ?_, ?_, ?_, ?_, ?_, ?_, ?_, ?_, ?_, ?_, ?_⟩; exact (World.cell?_alloc_lt _ _ ⟨S, 0, none⟩ (by assumption)).trans (by assumption); exact (World.cell?_alloc_lt _ _ ⟨S, 1, none⟩ (by assumption)).trans (by assumption); exact (World.cell?_alloc_lt _ _ ⟨S, 2, none⟩ (by assumption)).trans (by assumption); exact (World.cell?_alloc_lt _ _ ⟨S, 3, none⟩ (by assumption)).trans (by assumption); exact (World.cell?_alloc_lt _ _ ⟨S, 4, none⟩ (by assumption)).trans (by assumption); exact (World.cell?_alloc_lt _ _ ⟨S, 5, none⟩ (by assumption)).trans (by assumption); (simp; omega); (simp; omega); exact cv_of ((World.cell?_alloc_lt _ _ ⟨R, 0, none⟩ (by assumption)).trans (by assumption)); exact cv_of ((World.cell?_alloc_lt _ _ ⟨R, 1, none⟩ (by assumption)).trans (by assumption)); exact cv_of ((World.cell?_alloc_lt _ _ ⟨R, 2, none⟩ (by assumption)).trans (by assumption)); exact (World.frozen?_of_block (a := ⟨R, 0, none⟩) (((Below.refl _ _).alloc (Nat.le_refl _) _).block R (by assumption))).trans (by assumption); exact (World.frozen?_of_block (a := ⟨R, 1, none⟩) (((Below.refl _ _).alloc (Nat.le_refl _) _).block R (by assumption))).trans (by assumption); exact (World.frozen?_of_block (a := ⟨R, 2, none⟩) (((Below.refl _ _).alloc (Nat.le_refl _) _).block R (by assumption))).trans (by assumption); exact Below.alloc (by assumption) (by first | exact Nat.le_of_lt (by assumption) | exact Below.size (by assumption)) _)
   | (go_split_ands; refine ⟨?_, ?_, ?_, ?_, ?_, ?_, ?_, ?_, ?_, ?_, ?_, ?_, ?_, ?_, ?_⟩; assumption; assumption; assumption; assumption; assumption; assumption; assumption; assumption; assumption; assumption; assumption; assumption; assumption; assumption; assumption)
   | go_keep)
  ((first
    | (go_at_call 146
       go_split_ands
       with_reducible refine (ofI 18 2 _ _ ?_).mono ?_
       ·decide
       rintro e5 w5 ⟨rfl, hb5⟩)
    | (go_at_call 146
       go_split_ands
       with_reducible refine (ofI 12 6 _ _ ?_).mono ?_
       ·decide
       rintro e5 w5 ⟨rfl, hb5⟩)
    | (go_at_call 146
       go_split_ands
       with_reducible refine (ofI 0 12 _ _ ?_).mono ?_
       ·decide
       rintro e5 w5 ⟨rfl, hb5⟩)))
 all_goals
  go_split_ands
  go_wp2_with fail
  have T := set3 (R := R) (by assumption) (by assumption) (by assumption)
  obtain ⟨t0, t1, t2⟩ := T
  refine at_world (fun w9 => w9.cell? ⟨R, 0, none⟩ = some (.int .i64 (c / (64 * 4096) % 4)) ∧ w9.cell? ⟨R, 1, none⟩ = some (.int .i64 (c / 4096 % 64)) ∧ w9.cell? ⟨R, 2, none⟩ = some (.int .i64 (c % 4096)) ∧ Below S w w9) ⟨t0.trans (by simp), t1.trans (by simp), t2.trans (by simp), by assumption⟩ ?_
  clear t0 t1 t2
  rintro w9 ⟨t0, t1, t2, hb9⟩
  refine bodyPost_ret (v := .agg #[.int .i64 (c / (64 * 4096) % 4), .int .i64 (c / 4096 % 64), .int .i64 (c % 4096)]) (by simp [results, Tryz.results123, go_sem, t0, t1, t2]) rfl ⟨rfl, ?_⟩
  rw [hK]
  exact hb9
theorem apart2 (c : Int) (w : World) :
 Calls Tryz.prog 123 #[shV 256, .int .i64 c] w fun e' w' => e' = .returned (ptV (c / (64 * 256) % 4) (c / 256 % 64) (c % 256)) ∧ Below w.heap.size w w' := by
 rw [shV2]
 unfold ptV
 go_enter Tryz.func123, Tryz.ntmps123
 go_wp2_with fail
 have dS : w.heap.size + 1 ≠ w.heap.size := by omega
 have lR : w.heap.size ≤ w.heap.size + 1 := by omega
 have CS := Ce.made (w := w) (l := [.int .u64 14, .int .u64 2, .int .u64 8, .int .u64 6, .int .u64 0, .int .u64 8]) (T := 177) (g := w.heap.size) rfl
 replace CS := CS.alloc (.cells #[.int .i64 0, .int .i64 0, .int .i64 0] 181)
 have CR := Ce.made (w := (w.alloc (.cells #[.int .u64 14, .int .u64 2, .int .u64 8, .int .u64 6, .int .u64 0, .int .u64 8] 177))) (l := [.int .i64 0, .int .i64 0, .int .i64 0]) (T := 181) (g := w.heap.size + 1) (by simp)
 have B : Below w.heap.size w ((w.alloc (.cells #[.int .u64 14, .int .u64 2, .int .u64 8, .int .u64 6, .int .u64 0, .int .u64 8] 177)).alloc (.cells #[.int .i64 0, .int .i64 0, .int .i64 0] 181)) := (((Below.refl w.heap.size w).alloc (by first | exact Nat.le_refl _ | (simp; done) | (simp; omega)) (.cells #[.int .u64 14, .int .u64 2, .int .u64 8, .int .u64 6, .int .u64 0, .int .u64 8] 177)).alloc (by first | exact Nat.le_refl _ | (simp; done) | (simp; omega)) (.cells #[.int .i64 0, .int .i64 0, .int .i64 0] 181))
 generalize (w.alloc (.cells #[.int .u64 14, .int .u64 2, .int .u64 8, .int .u64 6, .int .u64 0, .int .u64 8] 177)).alloc (.cells #[.int .i64 0, .int .i64 0, .int .i64 0] 181) = w1 at *
 generalize w.heap.size + 1 = R at *
 generalize hK : w.heap.size = S at *
 obtain ⟨kS, qS, zS⟩ := CS
 have cS0 := qS 0 _ rfl
 have cS1 := qS 1 _ rfl
 have cS2 := qS 2 _ rfl
 have cS3 := qS 3 _ rfl
 have cS4 := qS 4 _ rfl
 have cS5 := qS 5 _ rfl
 clear qS zS
 obtain ⟨kR, qR, zR⟩ := CR
 have cR0 := qR 0 _ rfl
 have cR1 := qR 1 _ rfl
 have cR2 := qR 2 _ rfl
 have zR0 := zR 0
 have zR1 := zR 1
 have zR2 := zR 2
 clear qR zR
 replace cR0 := cv_of cR0
 replace cR1 := cv_of cR1
 replace cR2 := cv_of cR2
 go_region_held3 (fun w' => w'.cell? ⟨S, 0, none⟩ = some (.int .u64 14) ∧ w'.cell? ⟨S, 1, none⟩ = some (.int .u64 2) ∧ w'.cell? ⟨S, 2, none⟩ = some (.int .u64 8) ∧ w'.cell? ⟨S, 3, none⟩ = some (.int .u64 6) ∧ w'.cell? ⟨S, 4, none⟩ = some (.int .u64 0) ∧ w'.cell? ⟨S, 5, none⟩ = some (.int .u64 8) ∧ S < w'.heap.size ∧ R < w'.heap.size ∧ w'.cell? ⟨R, 0, none⟩ = some (cv w' R 0) ∧ w'.cell? ⟨R, 1, none⟩ = some (cv w' R 1) ∧ w'.cell? ⟨R, 2, none⟩ = some (cv w' R 2) ∧ w'.frozen? ⟨R, 0, none⟩ = false ∧ w'.frozen? ⟨R, 1, none⟩ = false ∧ w'.frozen? ⟨R, 2, none⟩ = false ∧ Below S w w')
  (first
   | (go_split_ands; refine ⟨?_, ?_, ?_, ?_, ?_, ?_, ?_, ?_, ?_, ?_, ?_, ?_, ?_, ?_, ?_⟩; with_reducible exact ((World.cell?_setCell_far _ _ _ _ dS).trans ((World.cell?_setCell_far _ _ _ _ dS).trans ((World.cell?_setCell_far _ _ _ _ dS).trans (by assumption)))); with_reducible exact ((World.cell?_setCell_far _ _ _ _ dS).trans ((World.cell?_setCell_far _ _ _ _ dS).trans ((World.cell?_setCell_far _ _ _ _ dS).trans (by assumption)))); with_reducible exact ((World.cell?_setCell_far _ _ _ _ dS).trans ((World.cell?_setCell_far _ _ _ _ dS).trans ((World.cell?_setCell_far _ _ _ _ dS).trans (by assumption)))); with_reducible exact ((World.cell?_setCell_far _ _ _ _ dS).trans ((World.cell?_setCell_far _ _ _ _ dS).trans ((World.cell?_setCell_far _ _ _ _ dS).trans (by assumption)))); with_reducible exact ((World.cell?_setCell_far _ _ _ _ dS).trans ((World.cell?_setCell_far _ _ _ _ dS).trans ((World.cell?_setCell_far _ _ _ _ dS).trans (by assumption)))); with_reducible exact ((World.cell?_setCell_far _ _ _ _ dS).trans ((World.cell?_setCell_far _ _ _ _ dS).trans ((World.cell?_setCell_far _ _ _ _ dS).trans (by assumption)))); with_reducible exact Nat.lt_of_lt_of_le (by assumption) (Below.setCell (Below.setCell (Below.setCell (Below.refl 0 _) (Nat.zero_le _) _) (Nat.zero_le _) _) (Nat.zero_le _) _).size; with_reducible exact Nat.lt_of_lt_of_le (by assumption) (Below.setCell (Below.setCell (Below.setCell (Below.refl 0 _) (Nat.zero_le _) _) (Nat.zero_le _) _) (Nat.zero_le _) _).size; with_reducible exact (cv_set (cv_set (cv_set (by assumption)))); with_reducible exact (cv_set (cv_set (cv_set (by assumption)))); with_reducible exact (cv_set (cv_set (cv_set (by assumption)))); (simp only [World.frozen?_setCell]; assumption); (simp only [World.frozen?_setCell]; assumption); (simp only [World.frozen?_setCell]; assumption); with_reducible exact (Below.setCell (Below.setCell (Below.setCell (by assumption) lR _) lR _) lR _))
   | (go_split_ands; refine ⟨?_, ?_, ?_, ?_, ?_, ?_, ?_, ?_, ?_, ?_, ?_, ?_, ?_, ?_, ?_⟩; exact (hb5.cell (p := ⟨S, 0, none⟩) (by assumption)).trans (by assumption); exact (hb5.cell (p := ⟨S, 1, none⟩) (by assumption)).trans (by assumption); exact (hb5.cell (p := ⟨S, 2, none⟩) (by assumption)).trans (by assumption); exact (hb5.cell (p := ⟨S, 3, none⟩) (by assumption)).trans (by assumption); exact (hb5.cell (p := ⟨S, 4, none⟩) (by assumption)).trans (by assumption); exact (hb5.cell (p := ⟨S, 5, none⟩) (by assumption)).trans (by assumption); exact Nat.lt_of_lt_of_le (by assumption) hb5.size; exact Nat.lt_of_lt_of_le (by assumption) hb5.size; exact cv_of ((hb5.cell (p := ⟨R, 0, none⟩) (by assumption)).trans (by assumption)); exact cv_of ((hb5.cell (p := ⟨R, 1, none⟩) (by assumption)).trans (by assumption)); exact cv_of ((hb5.cell (p := ⟨R, 2, none⟩) (by assumption)).trans (by assumption)); exact (World.frozen?_of_block (a := ⟨R, 0, none⟩) (hb5.block R (by assumption))).trans (by assumption); exact (World.frozen?_of_block (a := ⟨R, 1, none⟩) (hb5.block R (by assumption))).trans (by assumption); exact (World.frozen?_of_block (a := ⟨R, 2, none⟩) (hb5.block R (by assumption))).trans (by assumption); exact Below.trans (by assumption) (hb5.mono (by first | exact Nat.le_of_lt (by assumption) | exact Below.size (by assumption))))
   | (refine ⟨?_, ?_, ?_, ?_, ?_, ?_, ?_, ?_, ?_, ?_, ?_, ?_, ?_, ?_, ?_⟩; assumption; assumption; assumption; assumption; assumption; assumption; assumption; assumption; assumption; assumption; assumption; assumption; assumption; assumption; exact Below.drew (by assumption))
   | (go_split_ands; refine ⟨?_, ?_, ?_, ?_, ?_, ?_, ?_, ?_, ?_, ?_, ?_, ?_, ?_, ?_, ?_⟩; exact (World.cell?_alloc_lt _ _ ⟨S, 0, none⟩ (by assumption)).trans (by assumption); exact (World.cell?_alloc_lt _ _ ⟨S, 1, none⟩ (by assumption)).trans (by assumption); exact (World.cell?_alloc_lt _ _ ⟨S, 2, none⟩ (by assumption)).trans (by assumption); exact (World.cell?_alloc_lt _ _ ⟨S, 3, none⟩ (by assumption)).trans (by assumption); exact (World.cell?_alloc_lt _ _ ⟨S, 4, none⟩ (by assumption)).trans (by assumption); exact (World.cell?_alloc_lt _ _ ⟨S, 5, none⟩ (by assumption)).trans (by assumption); (simp; omega); (simp; omega); exact cv_of ((World.cell?_alloc_lt _ _ ⟨R, 0, none⟩ (by assumption)).trans (by assumption)); exact cv_of ((World.cell?_alloc_lt _ _ ⟨R, 1, none⟩ (by assumption)).trans (by assumption)); exact cv_of ((World.cell?_alloc_lt _ _ ⟨R, 2, none⟩ (by assumption)).trans (by assumption)); exact (World.frozen?_of_block (a := ⟨R, 0, none⟩) (((Below.refl _ _).alloc (Nat.le_refl _) _).block R (by assumption))).trans (by assumption); exact (World.frozen?_of_block (a := ⟨R, 1, none⟩) (((Below.refl _ _).alloc (Nat.le_refl _) _).block R (by assumption))).trans (by assumption); exact (World.frozen?_of_block (a := ⟨R, 2, none⟩) (((Below.refl _ _).alloc (Nat.le_refl _) _).block R (by assumption))).trans (by assumption); exact Below.alloc (by assumption) (by first | exact Nat.le_of_lt (by assumption) | exact Below.size (by assumption)) _)
   | (go_split_ands; refine ⟨?_, ?_, ?_, ?_, ?_, ?_, ?_, ?_, ?_, ?_, ?_, ?_, ?_, ?_, ?_⟩; assumption; assumption; assumption; assumption; assumption; assumption; assumption; assumption; assumption; assumption; assumption; assumption; assumption; assumption; assumption)
   | go_keep)
  ((first
    | (go_at_call 146
       go_split_ands
       with_reducible refine (ofI 14 2 _ _ ?_).mono ?_
       ·decide
       rintro e5 w5 ⟨rfl, hb5⟩)
    | (go_at_call 146
       go_split_ands
       with_reducible refine (ofI 8 6 _ _ ?_).mono ?_
       ·decide
       rintro e5 w5 ⟨rfl, hb5⟩)
    | (go_at_call 146
       go_split_ands
       with_reducible refine (ofI 0 8 _ _ ?_).mono ?_
       ·decide
       rintro e5 w5 ⟨rfl, hb5⟩)))
 all_goals
  go_split_ands
  go_wp2_with fail
  have T := set3 (R := R) (by assumption) (by assumption) (by assumption)
  obtain ⟨t0, t1, t2⟩ := T
  refine at_world (fun w9 => w9.cell? ⟨R, 0, none⟩ = some (.int .i64 (c / (64 * 256) % 4)) ∧ w9.cell? ⟨R, 1, none⟩ = some (.int .i64 (c / 256 % 64)) ∧ w9.cell? ⟨R, 2, none⟩ = some (.int .i64 (c % 256)) ∧ Below S w w9) ⟨t0.trans (by simp), t1.trans (by simp), t2.trans (by simp), by assumption⟩ ?_
  clear t0 t1 t2
  rintro w9 ⟨t0, t1, t2, hb9⟩
  refine bodyPost_ret (v := .agg #[.int .i64 (c / (64 * 256) % 4), .int .i64 (c / 256 % 64), .int .i64 (c % 256)]) (by simp [results, Tryz.results123, go_sem, t0, t1, t2]) rfl ⟨rfl, ?_⟩
  rw [hK]
  exact hb9
end Go.Proofs.YtlfionfnpieoiaaGreat
namespace Go.Proofs.YtlfionfnpieoiaaGreat
set_option linter.unusedVariables false
set_option linter.unusedSimpArgs false
open Go.RowKit Go.ChangeShapes Go.WideShapes Go.ChangeAt
def kyO (o : Option Ky) : Value := .tuple #[kyV (o.getD ⟨0, 0⟩), .bool o.isSome]
/-- An epoch that is not at the edge. -/
def Ep (e : Int) : Prop := -4611686018427387904 ≤ e ∧ e ≤ 4611686018427387904
theorem key_any (r : Rg) (e : Int) (hr : Ep r.e) (w : World) :
 Calls Tryz.prog 124 #[rgV r, .int .i64 e] w fun e' w' => e' = .returned (kyO (keyOf r e)) ∧ Below w.heap.size w w' := by
 obtain ⟨hr1, hr2⟩ := hr
 have q1 : IntKind.i64.wrap (r.e - 1) = r.e - 1 := IntWalk.i64_in _ (by omega)
 have q2 : IntKind.i64.wrap (r.e + 1) = r.e + 1 := IntWalk.i64_in _ (by omega)
 have HK := hid (show keyOf r e = _ from rfl)
 obtain ⟨o, ho⟩ : ∃ o, o = keyOf r e := ⟨_, rfl⟩
 rw [← ho]
 unfold keyOf at ho
 by_cases h0 : e % 4 = (r.e - 1) % 4
 ·rw [if_pos h0] at ho
  subst ho
  have b0 : (e % 4 == (r.e - 1) % 4) = true := by simp [h0]
  clear h0
  unfold kyO kyV rgV
  go_enter Tryz.func124, Tryz.ntmps124
  go_wp2_with fail
  refine (short_any _ _).mono ?_
  rintro e' w2 ⟨rfl, rfl⟩
  go_wp2_with fail
  refine (short_any _ _).mono ?_
  rintro e' w2 ⟨rfl, rfl⟩
  go_wp2_with fail
  refine bodyPost_ret (by simp [results, Tryz.results124, go_sem]) rfl ⟨rfl, ?_⟩
  repeat' (first | with_reducible exact Below.refl _ _ | with_reducible refine Below.drew ?_ | with_reducible refine Below.alloc ?_ ?_ _ | with_reducible refine Below.setCell ?_ ?_ _ | (simp; done) | (simp; omega))
 by_cases h1 : e % 4 = r.e % 4
 ·rw [if_neg h0] at ho; rw [if_pos h1] at ho
  subst ho
  have b0 : (e % 4 == (r.e - 1) % 4) = false := by simp [h0]
  have b1 : (e % 4 == r.e % 4) = true := by simp [h1]
  clear h0 h1
  unfold kyO kyV rgV
  go_enter Tryz.func124, Tryz.ntmps124
  go_wp2_with fail
  refine (short_any _ _).mono ?_
  rintro e' w2 ⟨rfl, rfl⟩
  go_wp2_with fail
  refine (short_any _ _).mono ?_
  rintro e' w2 ⟨rfl, rfl⟩
  go_wp2_with fail
  refine (short_any _ _).mono ?_
  rintro e' w2 ⟨rfl, rfl⟩
  go_wp2_with fail
  refine bodyPost_ret (by simp [results, Tryz.results124, go_sem]) rfl ⟨rfl, ?_⟩
  repeat' (first | with_reducible exact Below.refl _ _ | with_reducible refine Below.drew ?_ | with_reducible refine Below.alloc ?_ ?_ _ | with_reducible refine Below.setCell ?_ ?_ _ | (simp; done) | (simp; omega))
 by_cases h2 : e % 4 = (r.e + 1) % 4
 ·rw [if_neg h0] at ho; rw [if_neg h1] at ho; rw [if_pos h2] at ho
  subst ho
  have b0 : (e % 4 == (r.e - 1) % 4) = false := by simp [h0]
  have b1 : (e % 4 == r.e % 4) = false := by simp [h1]
  have b2 : (e % 4 == (r.e + 1) % 4) = true := by simp [h2]
  clear h0 h1 h2
  unfold kyO kyV rgV
  go_enter Tryz.func124, Tryz.ntmps124
  go_wp2_with fail
  refine (short_any _ _).mono ?_
  rintro e' w2 ⟨rfl, rfl⟩
  go_wp2_with fail
  refine (short_any _ _).mono ?_
  rintro e' w2 ⟨rfl, rfl⟩
  go_wp2_with fail
  refine (short_any _ _).mono ?_
  rintro e' w2 ⟨rfl, rfl⟩
  go_wp2_with fail
  refine (short_any _ _).mono ?_
  rintro e' w2 ⟨rfl, rfl⟩
  go_wp2_with fail
  refine bodyPost_ret (by simp [results, Tryz.results124, go_sem]) rfl ⟨rfl, ?_⟩
  repeat' (first | with_reducible exact Below.refl _ _ | with_reducible refine Below.drew ?_ | with_reducible refine Below.alloc ?_ ?_ _ | with_reducible refine Below.setCell ?_ ?_ _ | (simp; done) | (simp; omega))
 ·rw [if_neg h0, if_neg h1, if_neg h2] at ho
  subst ho
  have b0 : (e % 4 == (r.e - 1) % 4) = false := by simp [h0]
  have b1 : (e % 4 == r.e % 4) = false := by simp [h1]
  have b2 : (e % 4 == (r.e + 1) % 4) = false := by simp [h2]
  clear h0 h1 h2
  unfold kyO kyV rgV
  go_enter Tryz.func124, Tryz.ntmps124
  go_wp2_with fail
  refine (short_any _ _).mono ?_
  rintro e' w2 ⟨rfl, rfl⟩
  go_wp2_with fail
  refine (short_any _ _).mono ?_
  rintro e' w2 ⟨rfl, rfl⟩
  go_wp2_with fail
  refine (short_any _ _).mono ?_
  rintro e' w2 ⟨rfl, rfl⟩
  go_wp2_with fail
  refine (short_any _ _).mono ?_
  rintro e' w2 ⟨rfl, rfl⟩
  go_wp2_with fail
  refine bodyPost_ret (by simp [results, Tryz.results124, go_sem]) rfl ⟨rfl, ?_⟩
  repeat' (first | with_reducible exact Below.refl _ _ | with_reducible refine Below.drew ?_ | with_reducible refine Below.alloc ?_ ?_ _ | with_reducible refine Below.setCell ?_ ?_ _ | (simp; done) | (simp; omega))
end Go.Proofs.YtlfionfnpieoiaaGreat
namespace Go.Proofs.YtlfionfnpieoiaaGreat
set_option linter.unusedVariables false
set_option linter.unusedSimpArgs false
open Go.RowKit Go.ChangeShapes Go.WideShapes Go.ChangeAt
def kyN (n : Int) : Ky := ⟨IntKind.u64.wrap (IntKind.u64.wrap n * 11400714819323198485), bits .xor .u64 (IntKind.u64.wrap n) 19088743⟩
theorem lkey_any (n : Int) (w : World) : Calls Tryz.prog 16 #[.int .i64 n] w fun e' w' => e' = .returned (kyV (kyN n)) ∧ Below w.heap.size w w' := by
 unfold kyV kyN
 go_enter Tryz.func16, Tryz.ntmps16
 go_wp2_with fail
 refine bodyPost_ret (by simp [results, Tryz.results16, go_sem]) rfl ⟨rfl, ?_⟩
 repeat' (first | with_reducible exact Below.refl _ _ | with_reducible refine Below.drew ?_ | with_reducible refine Below.alloc ?_ ?_ _ | with_reducible refine Below.setCell ?_ ?_ _ | (simp; done) | (simp; omega))
theorem run_copy2 {P : Program} (w : World) (dT sT ty elem : TypeId) (b o dLen dCap : Nat) (a : Addr) (sLen sCap : Nat) (cs : List Value)
 (hu : P.underlying dT = some (.slice elem)) (hs : (P.info? elem).map (·.size) = some 2) (hn : cs.length = Nat.min sLen dLen * 2)
 (hsrc : ∀ j v, cs[j]? = some v → w.cell? (a.add j) = some v) (hc : ∀ j, j < cs.length → (w.cell? ⟨b, o + j, none⟩).isSome = true) (hf : ∀ j, j < cs.length → w.frozen? ⟨b, o + j, none⟩ = false) (h1 : ∀ v ∈ cs, v.oneCell' = true) :
 (Builtin.copy_ #[dT, sT] ty #[.slice (some ⟨b, o, none⟩) dLen dCap, .slice (some a) sLen sCap]).run P w = .ok (goInt (Nat.min sLen dLen)) (w.setCells b o cs) := by
 have hl := run_loadCells_list (P := P) w a cs hsrc
 have hst := run_storeCells_cells (P := P) b o cs 0 w (by simpa using hc) (by simpa using hf) h1
 cases hq : P.info? elem with
 | none => simp [hq] at hs
 | some i =>
   have hi : i.size = 2 := by simpa [hq] using hs
   rw [hn] at hl
   simp [Builtin.copy_, run_underlying hu, Builtin.lenOf, Builtin.firstCells, sizeOf, typeInfo, hq, hi, hl, hst]
/-- The i-th key of a row of n. -/
def kAt (n : Nat) (g : Nat → Int) (i : Nat) : Ky := if i < n then ⟨g (2 * i), g (2 * i + 1)⟩ else ⟨0, 0⟩
def rgN (e : Int) (n : Nat) (g : Nat → Int) : Rg := ⟨e, kAt n g 0, kAt n g 1, kAt n g 2⟩
theorem st_two {w : World} {X k : Nat} {g : Nat → Int} (hc : ∀ q, q < 6 → w.cell? ⟨X, q, none⟩ = some (.int .u64 (if q < 2 * k then g q else 0))) (hk : k < 3) :
 ∀ q, q < 6 → ((w.setCell ⟨X, k * 2, none⟩ (.int .u64 (g (k * 2)))).setCell ⟨X, k * 2 + 1, none⟩ (.int .u64 (g (k * 2 + 1)))).cell? ⟨X, q, none⟩ = some (.int .u64 (if q < 2 * (k + 1) then g q else 0)) := by
 intro q hq
 by_cases e1 : q = k * 2 + 1
 ·subst e1
  rw [World.cell?_setCell_same _ _ _ ((World.cell?_setCell_other _ _ _ _ (by simp)).trans (hc (k * 2 + 1) hq)), if_pos (by omega)]
 ·rw [World.cell?_setCell_other _ _ _ _ (by simp <;> omega)]
  by_cases e2 : q = k * 2
  ·subst e2
   rw [World.cell?_setCell_same _ _ _ (hc (k * 2) hq), if_pos (by omega)]
  ·rw [World.cell?_setCell_other _ _ _ _ (by simp <;> omega), hc q hq]
   congr 2
   by_cases h3 : q < 2 * k
   ·rw [if_pos h3, if_pos (by omega)]
   ·rw [if_neg h3, if_neg (by omega)]
theorem rring_any (e : Int) (A : Option Addr) (n c : Nat) (g : Nat → Int) (w : World) (h : Sl w A (2 * n) (fun j => .int .u64 (g j))) (hn : n ≤ 1000) :
 Calls Tryz.prog 29 #[.int .i64 e, .slice A n c] w fun e' w' => e' = .returned (rgV (rgN e n g)) ∧ Below w.heap.size w w' := by
 unfold rgV rgN
 go_enter Tryz.func29, Tryz.ntmps29
 go_wp2_with fail
 have dR : w.heap.size + 1 ≠ w.heap.size := by omega
 have lX : w.heap.size ≤ w.heap.size + 1 := by omega
 have CR := Ce.made (w := w) (l := [.int .i64 0, .int .u64 0, .int .u64 0, .int .u64 0, .int .u64 0, .int .u64 0, .int .u64 0]) (T := 32) (g := w.heap.size) rfl
 replace CR := CR.alloc (.cells #[.int .u64 0, .int .u64 0, .int .u64 0, .int .u64 0, .int .u64 0, .int .u64 0] 122)
 have CX := Ce.made (w := (w.alloc (.cells #[.int .i64 0, .int .u64 0, .int .u64 0, .int .u64 0, .int .u64 0, .int .u64 0, .int .u64 0] 32))) (l := [.int .u64 0, .int .u64 0, .int .u64 0, .int .u64 0, .int .u64 0, .int .u64 0]) (T := 122) (g := w.heap.size + 1) (by simp)
 have B : Below w.heap.size w ((w.alloc (.cells #[.int .i64 0, .int .u64 0, .int .u64 0, .int .u64 0, .int .u64 0, .int .u64 0, .int .u64 0] 32)).alloc (.cells #[.int .u64 0, .int .u64 0, .int .u64 0, .int .u64 0, .int .u64 0, .int .u64 0] 122)) := (((Below.refl w.heap.size w).alloc (by first | exact Nat.le_refl _ | (simp; done) | (simp; omega)) (.cells #[.int .i64 0, .int .u64 0, .int .u64 0, .int .u64 0, .int .u64 0, .int .u64 0, .int .u64 0] 32)).alloc (by first | exact Nat.le_refl _ | (simp; done) | (simp; omega)) (.cells #[.int .u64 0, .int .u64 0, .int .u64 0, .int .u64 0, .int .u64 0, .int .u64 0] 122))
 generalize (w.alloc (.cells #[.int .i64 0, .int .u64 0, .int .u64 0, .int .u64 0, .int .u64 0, .int .u64 0, .int .u64 0] 32)).alloc (.cells #[.int .u64 0, .int .u64 0, .int .u64 0, .int .u64 0, .int .u64 0, .int .u64 0] 122) = w1 at *
 generalize w.heap.size + 1 = X at *
 generalize hK : w.heap.size = R at *
 have CX' : ∀ q, q < 6 → w1.cell? ⟨X, q, none⟩ = some (.int .u64 (if q < 2 * 0 then g q else 0)) := fun q hq => by
  obtain ⟨_, q0, _⟩ := CX
  rw [if_neg (by omega)]
  rcases q with _ | _ | _ | _ | _ | _ | q
  ·exact q0 0 _ rfl
  ·exact q0 1 _ rfl
  ·exact q0 2 _ rfl
  ·exact q0 3 _ rfl
  ·exact q0 4 _ rfl
  ·exact q0 5 _ rfl
  ·omega
 have h1 : Sl w1 A (2 * n) (fun j => .int .u64 (g j)) := h.below B (Nat.le_of_eq hK)
 obtain ⟨N, hN1, hN2, hN3⟩ : ∃ N, N ≤ n ∧ N ≤ 3 ∧ (n ≤ N ∨ 3 ≤ N) := ⟨min n 3, by omega, by omega, by omega⟩
 have ZX : ∀ q, w1.frozen? ⟨X, q, none⟩ = false := CX.2.2
 have kX := CX.1
 have lB : w.heap.size ≤ w1.heap.size := B.size
 clear CX
 go_loopw [6] (fun i wr => ∃ k : Nat, k ≤ N ∧ i = .int .i64 k ∧ Below X w1 wr ∧ (∀ q, q < 6 → wr.cell? ⟨X, q, none⟩ = some (.int .u64 (if q < 2 * k then g q else 0))) ∧ (∀ q, wr.frozen? ⟨X, q, none⟩ = false)) (fun i _ => N - (intOf i).toNat)
 case atStart => exact ⟨0, by omega, rfl, Below.refl _ _, CX', ZX⟩
 case round =>
  obtain ⟨k, hk, rfl, hb, hcx, hzx⟩ := hrel
  by_cases hlt : k < N
  ·have h1' := h1
   obtain ⟨b, off, rfl, hbl, hcell⟩ := h (by omega)
   have hbX : b < X := by omega
   have hcl : ∀ j, j < 2 * n → wr.cell? ⟨b, off + j, none⟩ = some (.int .u64 (g j)) := fun j hj => (hb.cell (p := ⟨b, off + j, none⟩) hbX).trans (h1.at_ hj)
   have i1 : (k : Int) < n := by omega
   have i2 : (k : Int) < 3 := by omega
   have i3 : (0 : Int) ≤ k := by omega
   have s0 : wr.cell? ⟨b, off + k * 2, none⟩ = some (.int .u64 (g (k * 2))) := hcl _ (by omega)
   have s1 : wr.cell? ⟨b, off + k * 2 + 1, none⟩ = some (.int .u64 (g (k * 2 + 1))) := hcl (k * 2 + 1) (by omega)
   have x0 := hcx (k * 2) (by omega)
   have x1 := hcx (k * 2 + 1) (by omega)
   have z0 := hzx (k * 2)
   have z1 := hzx (k * 2 + 1)
   have HN := hid (st_two hcx (by omega : k < 3))
   have HZ := hid hzx
   clear hcx hzx hcl hcell h1 h1' CX' ZX
   go_wp2_with fail
   go_roundw
   case rel => exact ⟨k + 1, by omega, by go_num, (hb.setCell (Nat.le_refl _) _).setCell (Nat.le_refl _) _, HN.out, fun q => by simp [HZ.out q]⟩
   case measure => simp [intOf]; omega
  ·have e : k = N := by omega
   subst e
   have kk : ∀ i, i < 3 → (if 2 * i < 2 * k then g (2 * i) else 0) = (kAt n g i).a ∧ (if 2 * i + 1 < 2 * k then g (2 * i + 1) else 0) = (kAt n g i).b := fun i hi => by
    unfold kAt
    by_cases hin : i < n
    ·rw [if_pos hin, if_pos (by omega), if_pos (by omega)]
     exact ⟨rfl, rfl⟩
    ·rw [if_neg hin, if_neg (by omega), if_neg (by omega)]
     exact ⟨rfl, rfl⟩
   have x0 := hcx 0 (by omega)
   have x1 := hcx 1 (by omega)
   have x2 := hcx 2 (by omega)
   have x3 := hcx 3 (by omega)
   have x4 := hcx 4 (by omega)
   have x5 := hcx 5 (by omega)
   rw [show (if 0 < 2 * k then g 0 else 0) = (kAt n g 0).a from (kk 0 (by omega)).1] at x0
   rw [show (if 1 < 2 * k then g 1 else 0) = (kAt n g 0).b from (kk 0 (by omega)).2] at x1
   rw [show (if 2 < 2 * k then g 2 else 0) = (kAt n g 1).a from (kk 1 (by omega)).1] at x2
   rw [show (if 3 < 2 * k then g 3 else 0) = (kAt n g 1).b from (kk 1 (by omega)).2] at x3
   rw [show (if 4 < 2 * k then g 4 else 0) = (kAt n g 2).a from (kk 2 (by omega)).1] at x4
   rw [show (if 5 < 2 * k then g 5 else 0) = (kAt n g 2).b from (kk 2 (by omega)).2] at x5
   obtain ⟨kR, qR, zR⟩ := CR
   have hRX : R < X := by omega
   have cR0 := (hb.cell (p := ⟨R, 0, none⟩) hRX).trans (qR 0 _ rfl)
   have fR0 := (World.frozen?_of_block (a := ⟨R, 0, none⟩) (hb.block R hRX)).trans (zR 0)
   have cR1 := (hb.cell (p := ⟨R, 1, none⟩) hRX).trans (qR 1 _ rfl)
   have fR1 := (World.frozen?_of_block (a := ⟨R, 1, none⟩) (hb.block R hRX)).trans (zR 1)
   have cR2 := (hb.cell (p := ⟨R, 2, none⟩) hRX).trans (qR 2 _ rfl)
   have fR2 := (World.frozen?_of_block (a := ⟨R, 2, none⟩) (hb.block R hRX)).trans (zR 2)
   have cR3 := (hb.cell (p := ⟨R, 3, none⟩) hRX).trans (qR 3 _ rfl)
   have fR3 := (World.frozen?_of_block (a := ⟨R, 3, none⟩) (hb.block R hRX)).trans (zR 3)
   have cR4 := (hb.cell (p := ⟨R, 4, none⟩) hRX).trans (qR 4 _ rfl)
   have fR4 := (World.frozen?_of_block (a := ⟨R, 4, none⟩) (hb.block R hRX)).trans (zR 4)
   have cR5 := (hb.cell (p := ⟨R, 5, none⟩) hRX).trans (qR 5 _ rfl)
   have fR5 := (World.frozen?_of_block (a := ⟨R, 5, none⟩) (hb.block R hRX)).trans (zR 5)
   have cR6 := (hb.cell (p := ⟨R, 6, none⟩) hRX).trans (qR 6 _ rfl)
   have fR6 := (World.frozen?_of_block (a := ⟨R, 6, none⟩) (hb.block R hRX)).trans (zR 6)
   have hbf : Below R w wr := B.trans (hb.mono (by omega))
   clear hcx hzx kk h1 CX' ZX qR zR h B hb
   have hex : ¬ (k : Int) < n ∨ ¬ (k : Int) < 3 := by omega
   by_cases h7 : n ≤ k
   ·have j1 : ¬ (k : Int) < n := by omega
    go_wp2_with fail
    refine bodyPost_ret (by simp [results, Tryz.results29, go_sem, cR0, cR1, cR2, cR3, cR4, cR5, cR6]) rfl ⟨rfl, ?_⟩
    try rw [hK]
    repeat' (first | with_reducible exact hbf | refine Below.setCell ?_ (Nat.le_refl R) _)
   ·have j1 : (k : Int) < n := by omega
    have j2 : ¬ (k : Int) < 3 := by omega
    go_wp2_with fail
    refine bodyPost_ret (by simp [results, Tryz.results29, go_sem, cR0, cR1, cR2, cR3, cR4, cR5, cR6]) rfl ⟨rfl, ?_⟩
    try rw [hK]
    repeat' (first | with_reducible exact hbf | refine Below.setCell ?_ (Nat.le_refl R) _)
end Go.Proofs.YtlfionfnpieoiaaGreat
namespace Go.Proofs.YtlfionfnpieoiaaGreat
set_option linter.unusedVariables false
set_option linter.unusedSimpArgs false
open Go.RowKit Go.ChangeShapes Go.WideShapes Go.ChangeAt
theorem run_copy_none2 {P : Program} (w : World) (dT sT ty elem : TypeId) (d a : Option Addr) (dLen dCap sLen sCap : Nat) (hu : P.underlying dT = some (.slice elem)) (hs : (P.info? elem).map (·.size) = some 2) (hn : Nat.min sLen dLen = 0) :
 (Builtin.copy_ #[dT, sT] ty #[.slice d dLen dCap, .slice a sLen sCap]).run P w = .ok (goInt 0) w := by
 cases hq : P.info? elem with
 | none => simp [hq] at hs
 | some i =>
   have hl : ∀ (x : Addr), (loadCells x 0).run P w = .ok #[] w := fun x => by simpa using run_loadCells_list (P := P) w x [] (by simp)
   cases d <;> cases a <;> simp [Builtin.copy_, run_underlying hu, Builtin.lenOf, Builtin.firstCells, sizeOf, typeInfo, hq, hn, storeCells, hl]
theorem Ce.slu {w : World} {b : Nat} (l : List Int) (h : Ce w b (l.map (Value.int .u64))) : Sl w (some ⟨b, 0, none⟩) l.length (fun j => .int .u64 (l.getD j 0)) := by
 refine Sl.mk h.1 fun j hj => ?_
 rw [Nat.zero_add]
 exact h.2.1 j _ (by simp [List.getD, hj])
theorem keeps_setCells (b : Nat) : ∀ (vs : List Value) (o : Nat) (w : World) (B : Nat), B ≤ b → Below B w (w.setCells b o vs)
 | [], _, w, B, _ => Below.refl B w
 | v :: r, o, w, B, h => ((Below.refl B w).setCell h v).trans (keeps_setCells b r (o + 1) _ B h)
theorem cring_any (e : Int) (A : Option Addr) (n c : Nat) (g : Nat → Int) (w : World) (h : Sl w A (2 * n) (fun j => .int .u64 (g j))) (hn : n ≤ 1000) :
 Calls Tryz.prog 137 #[.int .i64 e, .slice A n c] w fun e' w' => e' = .returned (rgV (rgN e n g)) ∧ Below w.heap.size w w' := by
 unfold rgV rgN
 go_enter Tryz.func137, Tryz.ntmps137
 go_upto_region 2 with fail
 have dR : w.heap.size + 1 ≠ w.heap.size := by omega
 have lX : w.heap.size ≤ w.heap.size + 1 := by omega
 have CR := Ce.made (w := w) (l := [.int .i64 0, .int .u64 0, .int .u64 0, .int .u64 0, .int .u64 0, .int .u64 0, .int .u64 0]) (T := 32) (g := w.heap.size) rfl
 replace CR := CR.alloc (.cells #[.int .u64 0, .int .u64 0, .int .u64 0, .int .u64 0, .int .u64 0, .int .u64 0] 122)
 have CX := Ce.made (w := (w.alloc (.cells #[.int .i64 0, .int .u64 0, .int .u64 0, .int .u64 0, .int .u64 0, .int .u64 0, .int .u64 0] 32))) (l := [.int .u64 0, .int .u64 0, .int .u64 0, .int .u64 0, .int .u64 0, .int .u64 0]) (T := 122) (g := w.heap.size + 1) (by simp)
 have B : Below w.heap.size w ((w.alloc (.cells #[.int .i64 0, .int .u64 0, .int .u64 0, .int .u64 0, .int .u64 0, .int .u64 0, .int .u64 0] 32)).alloc (.cells #[.int .u64 0, .int .u64 0, .int .u64 0, .int .u64 0, .int .u64 0, .int .u64 0] 122)) := (((Below.refl w.heap.size w).alloc (by first | exact Nat.le_refl _ | (simp; done) | (simp; omega)) (.cells #[.int .i64 0, .int .u64 0, .int .u64 0, .int .u64 0, .int .u64 0, .int .u64 0, .int .u64 0] 32)).alloc (by first | exact Nat.le_refl _ | (simp; done) | (simp; omega)) (.cells #[.int .u64 0, .int .u64 0, .int .u64 0, .int .u64 0, .int .u64 0, .int .u64 0] 122))
 generalize (w.alloc (.cells #[.int .i64 0, .int .u64 0, .int .u64 0, .int .u64 0, .int .u64 0, .int .u64 0, .int .u64 0] 32)).alloc (.cells #[.int .u64 0, .int .u64 0, .int .u64 0, .int .u64 0, .int .u64 0, .int .u64 0] 122) = w1 at *
 generalize w.heap.size + 1 = X at *
 generalize hK : w.heap.size = R at *
 have h1 : Sl w1 A (2 * n) (fun j => .int .u64 (g j)) := h.below B (Nat.le_of_eq hK)
 obtain ⟨m, hm1, hm2, hm3⟩ : ∃ m, m ≤ n ∧ m ≤ 3 ∧ (n ≤ m ∨ 3 ≤ m) := ⟨min n 3, by omega, by omega, by omega⟩
 have hz : ∀ q, q < 6 → w1.cell? ⟨X, q, none⟩ = some (.int .u64 0) := fun q hq => by
  rcases q with _ | _ | _ | _ | _ | _ | q
  ·exact CX.2.1 0 _ rfl
  ·exact CX.2.1 1 _ rfl
  ·exact CX.2.1 2 _ rfl
  ·exact CX.2.1 3 _ rfl
  ·exact CX.2.1 4 _ rfl
  ·exact CX.2.1 5 _ rfl
  ·omega
 have hmm : Nat.min n 3 = m := by
  show min n 3 = m
  omega
 obtain ⟨cs, hcs⟩ : ∃ cs, cs = (List.range (2 * m)).map (fun j => Value.int .u64 (g j)) := ⟨_, rfl⟩
 have hcl : cs.length = m * 2 := by rw [hcs]; simp; omega
 have hcopy : (Builtin.copy_ #[80, 80] 3 #[.slice (some ⟨X, 0, none⟩) 3 3, .slice A n c]).run Tryz.prog w1 = .ok (goInt m) (w1.setCells X 0 cs) := by
  rcases Nat.eq_zero_or_pos m with h0 | h0
  ·have hc0 : cs = [] := List.length_eq_zero_iff.1 (by omega)
   rw [hc0, run_copy_none2 w1 80 80 3 30 _ _ 3 3 n c Tryz.underlying80 (by kernel_rfl) (by rw [hmm, h0]), h0]
   rfl
  ·obtain ⟨b, off, rfl, hbl, hcell⟩ := h1 (by omega)
   rw [run_copy2 w1 80 80 3 30 X 0 3 3 ⟨b, off, none⟩ n c cs Tryz.underlying80 (by kernel_rfl) (by rw [hmm, hcl]) (fun j v hj => ?_) (fun j hj => ?_) (fun j _ => CX.2.2 _) (fun v hv => ?_), hmm]
   ·rw [add_plain]
    have hjl : j < 2 * m := by
     have := (List.getElem?_eq_some_iff.1 hj).1
     omega
    rw [hcs] at hj
    simp [hjl] at hj
    rw [hcell j (by omega), ← hj]
   ·have hj6 : j < 6 := by omega
    rw [Nat.zero_add]
    rw [hz j hj6]
    rfl
   ·rw [hcs] at hv
    simp at hv
    obtain ⟨_, _, rfl⟩ := hv
    rfl
 have hcx : ∀ q, q < 6 → (w1.setCells X 0 cs).cell? ⟨X, q, none⟩ = some (.int .u64 (if q < 2 * m then g q else 0)) := fun q hq => by
  by_cases h2 : q < 2 * m
  ·have := World.cell?_setCells_in X cs 0 w1 (fun j hj => by
    rw [Nat.zero_add]
    have hj6 : j < 6 := by omega
    rw [hz j hj6]
    rfl) q (by omega)
   rw [Nat.zero_add] at this
   rw [this, if_pos h2]
   simp [hcs]
  ·rw [World.cell?_setCells_out X cs 0 w1 _ (fun _ _ => .inr (by rw [hcl]; show 0 + m * 2 ≤ q; omega)), hz q hq, if_neg h2]
 have hbs := keeps_setCells X cs 0 w1 X (Nat.le_refl X)
 have HC := hid hcopy
 clear hcs hcl hmm hcopy
 generalize hws : w1.setCells X 0 cs = w2 at *
 have hcopy := HC.out
 clear HC hws
 have kk : ∀ i, i < 3 → (if 2 * i < 2 * m then g (2 * i) else 0) = (kAt n g i).a ∧ (if 2 * i + 1 < 2 * m then g (2 * i + 1) else 0) = (kAt n g i).b := fun i hi => by
  unfold kAt
  by_cases hin : i < n
  ·rw [if_pos hin, if_pos (by omega), if_pos (by omega)]
   exact ⟨rfl, rfl⟩
  ·rw [if_neg hin, if_neg (by omega), if_neg (by omega)]
   exact ⟨rfl, rfl⟩
 have x0 := hcx 0 (by omega)
 have x1 := hcx 1 (by omega)
 have x2 := hcx 2 (by omega)
 have x3 := hcx 3 (by omega)
 have x4 := hcx 4 (by omega)
 have x5 := hcx 5 (by omega)
 rw [show (if 0 < 2 * m then g 0 else 0) = (kAt n g 0).a from (kk 0 (by omega)).1] at x0
 rw [show (if 1 < 2 * m then g 1 else 0) = (kAt n g 0).b from (kk 0 (by omega)).2] at x1
 rw [show (if 2 < 2 * m then g 2 else 0) = (kAt n g 1).a from (kk 1 (by omega)).1] at x2
 rw [show (if 3 < 2 * m then g 3 else 0) = (kAt n g 1).b from (kk 1 (by omega)).2] at x3
 rw [show (if 4 < 2 * m then g 4 else 0) = (kAt n g 2).a from (kk 2 (by omega)).1] at x4
 rw [show (if 5 < 2 * m then g 5 else 0) = (kAt n g 2).b from (kk 2 (by omega)).2] at x5
 obtain ⟨kR, qR, zR⟩ := CR
 have hRX : R < X := by omega
 have cR0 := (hbs.cell (p := ⟨R, 0, none⟩) hRX).trans (qR 0 _ rfl)
 have fR0 := (World.frozen?_of_block (a := ⟨R, 0, none⟩) (hbs.block R hRX)).trans (zR 0)
 have cR1 := (hbs.cell (p := ⟨R, 1, none⟩) hRX).trans (qR 1 _ rfl)
 have fR1 := (World.frozen?_of_block (a := ⟨R, 1, none⟩) (hbs.block R hRX)).trans (zR 1)
 have cR2 := (hbs.cell (p := ⟨R, 2, none⟩) hRX).trans (qR 2 _ rfl)
 have fR2 := (World.frozen?_of_block (a := ⟨R, 2, none⟩) (hbs.block R hRX)).trans (zR 2)
 have cR3 := (hbs.cell (p := ⟨R, 3, none⟩) hRX).trans (qR 3 _ rfl)
 have fR3 := (World.frozen?_of_block (a := ⟨R, 3, none⟩) (hbs.block R hRX)).trans (zR 3)
 have cR4 := (hbs.cell (p := ⟨R, 4, none⟩) hRX).trans (qR 4 _ rfl)
 have fR4 := (World.frozen?_of_block (a := ⟨R, 4, none⟩) (hbs.block R hRX)).trans (zR 4)
 have cR5 := (hbs.cell (p := ⟨R, 5, none⟩) hRX).trans (qR 5 _ rfl)
 have fR5 := (World.frozen?_of_block (a := ⟨R, 5, none⟩) (hbs.block R hRX)).trans (zR 5)
 have cR6 := (hbs.cell (p := ⟨R, 6, none⟩) hRX).trans (qR 6 _ rfl)
 have fR6 := (World.frozen?_of_block (a := ⟨R, 6, none⟩) (hbs.block R hRX)).trans (zR 6)
 have hbf : Below R w w2 := B.trans (hbs.mono (by omega))
 clear hcx kk h1 qR zR h B hbs CX hz
 go_wp2_with fail
 refine bodyPost_ret (by simp [results, Tryz.results137, go_sem, cR0, cR1, cR2, cR3, cR4, cR5, cR6]) rfl ⟨rfl, ?_⟩
 try rw [hK]
 repeat' (first | with_reducible exact hbf | refine Below.setCell ?_ (Nat.le_refl R) _)
end Go.Proofs.YtlfionfnpieoiaaGreat
namespace Go.Proofs.YtlfionfnpieoiaaGreat
set_option linter.unusedVariables false
set_option linter.unusedSimpArgs false
open Go.RowKit Go.ChangeShapes Go.WideShapes Go.ChangeAt
theorem next_any (r : Rg) (k : Ky) (hr : Ep r.e) (w : World) :
 Calls Tryz.prog 107 #[rgV r, kyV k] w fun e' w' => e' = .returned (rgV ⟨r.e + 1, r.c, r.n, k⟩) ∧ Below w.heap.size w w' := by
 obtain ⟨hr1, hr2⟩ := hr
 have q2 : IntKind.i64.wrap (r.e + 1) = r.e + 1 := IntWalk.i64_in _ (by omega)
 unfold rgV kyV
 go_enter Tryz.func107, Tryz.ntmps107
 go_wp2_with fail
 have dA : w.heap.size + 1 + 1 ≠ w.heap.size := by omega
 have dK : w.heap.size + 1 + 1 ≠ w.heap.size + 1 := by omega
 have lR : w.heap.size ≤ w.heap.size + 1 + 1 := by omega
 have CA := Ce.made (w := w) (l := [.int .i64 r.e, .int .u64 r.p.a, .int .u64 r.p.b, .int .u64 r.c.a, .int .u64 r.c.b, .int .u64 r.n.a, .int .u64 r.n.b]) (T := 32) (g := w.heap.size) rfl
 replace CA := CA.alloc (.cells #[.int .u64 k.a, .int .u64 k.b] 30)
 have CK := Ce.made (w := (w.alloc (.cells #[.int .i64 r.e, .int .u64 r.p.a, .int .u64 r.p.b, .int .u64 r.c.a, .int .u64 r.c.b, .int .u64 r.n.a, .int .u64 r.n.b] 32))) (l := [.int .u64 k.a, .int .u64 k.b]) (T := 30) (g := w.heap.size + 1) (by simp)
 replace CA := CA.alloc (.cells #[.int .i64 0, .int .u64 0, .int .u64 0, .int .u64 0, .int .u64 0, .int .u64 0, .int .u64 0] 32)
 replace CK := CK.alloc (.cells #[.int .i64 0, .int .u64 0, .int .u64 0, .int .u64 0, .int .u64 0, .int .u64 0, .int .u64 0] 32)
 have CR := Ce.made (w := ((w.alloc (.cells #[.int .i64 r.e, .int .u64 r.p.a, .int .u64 r.p.b, .int .u64 r.c.a, .int .u64 r.c.b, .int .u64 r.n.a, .int .u64 r.n.b] 32)).alloc (.cells #[.int .u64 k.a, .int .u64 k.b] 30))) (l := [.int .i64 0, .int .u64 0, .int .u64 0, .int .u64 0, .int .u64 0, .int .u64 0, .int .u64 0]) (T := 32) (g := w.heap.size + 1 + 1) (by simp)
 replace CA := CA.alloc (.cells #[.int .u64 r.c.a, .int .u64 r.c.b, .int .u64 r.n.a, .int .u64 r.n.b, .int .u64 k.a, .int .u64 k.b] 30)
 replace CK := CK.alloc (.cells #[.int .u64 r.c.a, .int .u64 r.c.b, .int .u64 r.n.a, .int .u64 r.n.b, .int .u64 k.a, .int .u64 k.b] 30)
 replace CR := CR.alloc (.cells #[.int .u64 r.c.a, .int .u64 r.c.b, .int .u64 r.n.a, .int .u64 r.n.b, .int .u64 k.a, .int .u64 k.b] 30)
 have CX := Ce.made (w := (((w.alloc (.cells #[.int .i64 r.e, .int .u64 r.p.a, .int .u64 r.p.b, .int .u64 r.c.a, .int .u64 r.c.b, .int .u64 r.n.a, .int .u64 r.n.b] 32)).alloc (.cells #[.int .u64 k.a, .int .u64 k.b] 30)).alloc (.cells #[.int .i64 0, .int .u64 0, .int .u64 0, .int .u64 0, .int .u64 0, .int .u64 0, .int .u64 0] 32))) (l := [.int .u64 r.c.a, .int .u64 r.c.b, .int .u64 r.n.a, .int .u64 r.n.b, .int .u64 k.a, .int .u64 k.b]) (T := 30) (g := w.heap.size + 1 + 1 + 1) (by simp)
 have B : Below w.heap.size w ((((w.alloc (.cells #[.int .i64 r.e, .int .u64 r.p.a, .int .u64 r.p.b, .int .u64 r.c.a, .int .u64 r.c.b, .int .u64 r.n.a, .int .u64 r.n.b] 32)).alloc (.cells #[.int .u64 k.a, .int .u64 k.b] 30)).alloc (.cells #[.int .i64 0, .int .u64 0, .int .u64 0, .int .u64 0, .int .u64 0, .int .u64 0, .int .u64 0] 32)).alloc (.cells #[.int .u64 r.c.a, .int .u64 r.c.b, .int .u64 r.n.a, .int .u64 r.n.b, .int .u64 k.a, .int .u64 k.b] 30)) := (((((Below.refl w.heap.size w).alloc (by first | exact Nat.le_refl _ | (simp; done) | (simp; omega)) (.cells #[.int .i64 r.e, .int .u64 r.p.a, .int .u64 r.p.b, .int .u64 r.c.a, .int .u64 r.c.b, .int .u64 r.n.a, .int .u64 r.n.b] 32)).alloc (by first | exact Nat.le_refl _ | (simp; done) | (simp; omega)) (.cells #[.int .u64 k.a, .int .u64 k.b] 30)).alloc (by first | exact Nat.le_refl _ | (simp; done) | (simp; omega)) (.cells #[.int .i64 0, .int .u64 0, .int .u64 0, .int .u64 0, .int .u64 0, .int .u64 0, .int .u64 0] 32)).alloc (by first | exact Nat.le_refl _ | (simp; done) | (simp; omega)) (.cells #[.int .u64 r.c.a, .int .u64 r.c.b, .int .u64 r.n.a, .int .u64 r.n.b, .int .u64 k.a, .int .u64 k.b] 30))
 generalize (((w.alloc (.cells #[.int .i64 r.e, .int .u64 r.p.a, .int .u64 r.p.b, .int .u64 r.c.a, .int .u64 r.c.b, .int .u64 r.n.a, .int .u64 r.n.b] 32)).alloc (.cells #[.int .u64 k.a, .int .u64 k.b] 30)).alloc (.cells #[.int .i64 0, .int .u64 0, .int .u64 0, .int .u64 0, .int .u64 0, .int .u64 0, .int .u64 0] 32)).alloc (.cells #[.int .u64 r.c.a, .int .u64 r.c.b, .int .u64 r.n.a, .int .u64 r.n.b, .int .u64 k.a, .int .u64 k.b] 30) = w1 at *
 generalize w.heap.size + 1 + 1 + 1 = X at *
 generalize w.heap.size + 1 + 1 = R at *
 generalize w.heap.size + 1 = K at *
 generalize hK : w.heap.size = A at *
 refine (re_v (cring_any (r.e + 1) (some ⟨X, 0, none⟩) 3 3 _ w1 (Ce.slu [r.c.a, r.c.b, r.n.a, r.n.b, k.a, k.b] CX) (by omega)) (b := .agg #[.int .i64 (r.e + 1), .int .u64 r.c.a, .int .u64 r.c.b, .int .u64 r.n.a, .int .u64 r.n.b, .int .u64 k.a, .int .u64 k.b]) rfl).mono ?_
 rintro e' w2 ⟨rfl, hb⟩
 replace B := B.trans (hb.mono (Nat.le_of_lt CA.1))
 replace CR := CR.below hb
 clear CA CK CX hb
 have fR0 := CR.2.2 0
 have fR1 := CR.2.2 1
 have fR2 := CR.2.2 2
 have fR3 := CR.2.2 3
 have fR4 := CR.2.2 4
 have fR5 := CR.2.2 5
 have fR6 := CR.2.2 6
 obtain ⟨kR, qR, zR⟩ := id CR
 have cR0 := qR 0 _ rfl
 have cR1 := qR 1 _ rfl
 have cR2 := qR 2 _ rfl
 have cR3 := qR 3 _ rfl
 have cR4 := qR 4 _ rfl
 have cR5 := qR 5 _ rfl
 have cR6 := qR 6 _ rfl
 clear qR zR
 go_wp2_with fail
 refine bodyPost_ret (by simp [results, Tryz.results107, go_sem, cR0, cR1, cR2, cR3, cR4, cR5, cR6]) rfl ⟨rfl, ?_⟩
 try rw [hK]
 repeat' (first | with_reducible exact B | refine Below.setCell ?_ (by first | exact Nat.le_refl _ | omega) _)
theorem rnext_any (r : Rg) (k : Ky) (hr : Ep r.e) (w : World) :
 Calls Tryz.prog 36 #[rgV r, kyV k] w fun e' w' => e' = .returned (rgV ⟨r.e + 1, r.c, r.n, k⟩) ∧ Below w.heap.size w w' := by
 obtain ⟨hr1, hr2⟩ := hr
 have q2 : IntKind.i64.wrap (r.e + 1) = r.e + 1 := IntWalk.i64_in _ (by omega)
 unfold rgV kyV
 go_enter Tryz.func36, Tryz.ntmps36
 go_wp2_with fail
 refine bodyPost_ret (by simp [results, Tryz.results36, go_sem]) rfl ⟨rfl, ?_⟩
 repeat' (first | with_reducible exact Below.refl _ _ | with_reducible refine Below.drew ?_ | with_reducible refine Below.alloc ?_ ?_ _ | with_reducible refine Below.setCell ?_ ?_ _ | (simp; done) | (simp; omega))
end Go.Proofs.YtlfionfnpieoiaaGreat
namespace Go.Proofs.YtlfionfnpieoiaaGreat
set_option linter.unusedVariables false
set_option linter.unusedSimpArgs false
open Go.RowKit Go.ChangeShapes Go.WideShapes Go.ChangeAt
end Go.Proofs.YtlfionfnpieoiaaGreat
namespace Go.Proofs.YtlfionfnpieoiaaGreat
set_option linter.unusedVariables false
set_option linter.unusedSimpArgs false
open Go.RowKit Go.ChangeShapes Go.WideShapes Go.ChangeAt
theorem cok_iff (T : Int) (k : Ky) (kd : Int) (f : Fl) (c : Int) (hT : T = 4096 ∨ T = 256) (h0 : 0 ≤ c) (h1 : c < 256 * T) : cok T k kd f (slotOf T k kd f c) (c / (64 * T)) = c ↔ W7 k kd f (slotOf T k kd f c) (c / (64 * T)) % T = c % T := by
 have hm : xr (slotOf T k kd f c) (W7 k kd f 64 (c / (64 * T)) % 64) = c / T % 64 := by
  unfold slotOf
  rw [xr_back _ _ (by omega)]
 unfold cok
 rw [hm]
 generalize W7 k kd f (slotOf T k kd f c) (c / (64 * T)) = x
 rcases hT with rfl | rfl <;> omega
def rdO (o : Option Int) : Value := .tuple #[.int .i64 (o.getD 0), .bool o.isSome]
set_option maxHeartbeats 2000000 in
theorem read_k (kd T s1 s2 M : Int) (hkt : KT kd T) (hT : T = 4096 ∨ T = 256) (HSH : shV T = .agg #[.int .u64 s1, .int .u64 2, .int .u64 s2, .int .u64 6, .int .u64 0, .int .u64 s2]) (hM : 256 * T = M) (hkI : I64 kd) (r : Rg) (f : Fl) (c : Int) (hf : f.I) (hr : Ep r.e)
 (AP : ∀ w, Calls Tryz.prog 123 #[shV T, .int .i64 c] w fun e' w' => e' = .returned (ptV (c / (64 * T) % 4) (c / T % 64) (c % T)) ∧ Below w.heap.size w w')
 (MD : ∀ (k : Ky) (x e : Int), I64 x → I64 e → ∀ w, Calls Tryz.prog 98 #[shV T, kyV k, .int .i64 kd, flV f, .int .i64 x, .int .i64 e] w fun e' w' => e' = .returned (ptV e (xr (x % 64) (W7 k kd f 64 e % 64)) (W7 k kd f x e % T)) ∧ Below w.heap.size w w') (w : World) :
 Calls Tryz.prog 87 #[rgV r, .int .i64 kd, flV f, .int .i64 c] w fun e' w' => e' = .returned (rdO (readC T r kd f c)) ∧ Below w.heap.size w w' := by
 have BY := fun w => beyond_any T w hT
 have KY := fun e w => key_any r e hr w
 have MK := fun k e he w => mask_any k kd f e hf hkI he w
 have HI := cok_iff T (f := f) (kd := kd) (c := c) (hT := hT)
 obtain ⟨o, ho⟩ : ∃ o, o = readC T r kd f c := ⟨_, rfl⟩
 rw [← ho]
 unfold readC at ho
 rw [HSH] at BY AP MD
 rw [hM] at BY HI
 unfold rgV flV kyV ptV rdO kyO kyV at *
 replace BY := hid BY
 replace AP := hid AP
 replace KY := hid KY
 replace MK := hid MK
 replace MD := hid MD
 replace HI := hid HI
 by_cases h0 : c < 0
 ·rw [if_pos (Or.inl h0)] at ho
  subst ho
  go_enter Tryz.func87, Tryz.ntmps87
  go_wp2_with fail
  have CA := Ce.made (w := w) (l := [.int .i64 r.e, .int .u64 r.p.a, .int .u64 r.p.b, .int .u64 r.c.a, .int .u64 r.c.b, .int .u64 r.n.a, .int .u64 r.n.b]) (T := 32) (g := w.heap.size) rfl
  replace CA := CA.alloc (.cells #[.int .i64 f.a, .int .i64 f.p, .int .i64 f.ta, .int .i64 f.tp] 132)
  have CF := Ce.made (w := (w.alloc (.cells #[.int .i64 r.e, .int .u64 r.p.a, .int .u64 r.p.b, .int .u64 r.c.a, .int .u64 r.c.b, .int .u64 r.n.a, .int .u64 r.n.b] 32))) (l := [.int .i64 f.a, .int .i64 f.p, .int .i64 f.ta, .int .i64 f.tp]) (T := 132) (g := w.heap.size + 1) (by simp)
  have B : Below w.heap.size w ((w.alloc (.cells #[.int .i64 r.e, .int .u64 r.p.a, .int .u64 r.p.b, .int .u64 r.c.a, .int .u64 r.c.b, .int .u64 r.n.a, .int .u64 r.n.b] 32)).alloc (.cells #[.int .i64 f.a, .int .i64 f.p, .int .i64 f.ta, .int .i64 f.tp] 132)) := (((Below.refl w.heap.size w).alloc (by first | exact Nat.le_refl _ | (simp; done) | (simp; omega)) (.cells #[.int .i64 r.e, .int .u64 r.p.a, .int .u64 r.p.b, .int .u64 r.c.a, .int .u64 r.c.b, .int .u64 r.n.a, .int .u64 r.n.b] 32)).alloc (by first | exact Nat.le_refl _ | (simp; done) | (simp; omega)) (.cells #[.int .i64 f.a, .int .i64 f.p, .int .i64 f.ta, .int .i64 f.tp] 132))
  generalize (w.alloc (.cells #[.int .i64 r.e, .int .u64 r.p.a, .int .u64 r.p.b, .int .u64 r.c.a, .int .u64 r.c.b, .int .u64 r.n.a, .int .u64 r.n.b] 32)).alloc (.cells #[.int .i64 f.a, .int .i64 f.p, .int .i64 f.ta, .int .i64 f.tp] 132) = w1 at *
  generalize w.heap.size + 1 = F at *
  generalize hK : w.heap.size = A at *
  refine (shapeOf_any kd T _ hkt).mono ?_
  rintro e' w2 ⟨rfl, hb⟩
  replace B := B.trans (hb.mono (Nat.le_of_lt CA.1))
  replace CA := CA.below hb
  replace CF := CF.below hb
  clear hb
  rw [HSH]
  obtain ⟨kA, qA, zA⟩ := id CA
  have cA0 := qA 0 _ rfl
  have cA1 := qA 1 _ rfl
  have cA2 := qA 2 _ rfl
  have cA3 := qA 3 _ rfl
  have cA4 := qA 4 _ rfl
  have cA5 := qA 5 _ rfl
  have cA6 := qA 6 _ rfl
  clear qA zA
  obtain ⟨kF, qF, zF⟩ := id CF
  have cF0 := qF 0 _ rfl
  have cF1 := qF 1 _ rfl
  have cF2 := qF 2 _ rfl
  have cF3 := qF 3 _ rfl
  clear qF zF
  go_wp2_with fail
  clear kA cA0 cA1 cA2 cA3 cA4 cA5 cA6
  clear kF cF0 cF1 cF2 cF3
  have CS := Ce.made (w := w2) (l := [.int .u64 s1, .int .u64 2, .int .u64 s2, .int .u64 6, .int .u64 0, .int .u64 s2]) (T := 177) (g := w2.heap.size) rfl
  replace B := B.alloc (Nat.le_of_lt CA.1) (.cells #[.int .u64 s1, .int .u64 2, .int .u64 s2, .int .u64 6, .int .u64 0, .int .u64 s2] 177)
  replace CA := CA.alloc (.cells #[.int .u64 s1, .int .u64 2, .int .u64 s2, .int .u64 6, .int .u64 0, .int .u64 s2] 177)
  replace CF := CF.alloc (.cells #[.int .u64 s1, .int .u64 2, .int .u64 s2, .int .u64 6, .int .u64 0, .int .u64 s2] 177)
  generalize w2.alloc (.cells #[.int .u64 s1, .int .u64 2, .int .u64 s2, .int .u64 6, .int .u64 0, .int .u64 s2] 177) = w3 at *
  generalize w2.heap.size = S at *
  obtain ⟨kA, qA, zA⟩ := id CA
  have cA0 := qA 0 _ rfl
  have cA1 := qA 1 _ rfl
  have cA2 := qA 2 _ rfl
  have cA3 := qA 3 _ rfl
  have cA4 := qA 4 _ rfl
  have cA5 := qA 5 _ rfl
  have cA6 := qA 6 _ rfl
  clear qA zA
  obtain ⟨kF, qF, zF⟩ := id CF
  have cF0 := qF 0 _ rfl
  have cF1 := qF 1 _ rfl
  have cF2 := qF 2 _ rfl
  have cF3 := qF 3 _ rfl
  clear qF zF
  obtain ⟨kS, qS, zS⟩ := id CS
  have cS0 := qS 0 _ rfl
  have cS1 := qS 1 _ rfl
  have cS2 := qS 2 _ rfl
  have cS3 := qS 3 _ rfl
  have cS4 := qS 4 _ rfl
  have cS5 := qS 5 _ rfl
  clear qS zS
  go_wp2
  refine bodyPost_ret (by simp [results, Tryz.results87, go_sem]) rfl ⟨rfl, ?_⟩
  rw [hK]
  exact B
 ·by_cases h1 : M ≤ c
  ·rw [if_pos (Or.inr (by omega))] at ho
   subst ho
   have g0 : 0 ≤ c := by omega
   go_enter Tryz.func87, Tryz.ntmps87
   go_wp2_with fail
   have CA := Ce.made (w := w) (l := [.int .i64 r.e, .int .u64 r.p.a, .int .u64 r.p.b, .int .u64 r.c.a, .int .u64 r.c.b, .int .u64 r.n.a, .int .u64 r.n.b]) (T := 32) (g := w.heap.size) rfl
   replace CA := CA.alloc (.cells #[.int .i64 f.a, .int .i64 f.p, .int .i64 f.ta, .int .i64 f.tp] 132)
   have CF := Ce.made (w := (w.alloc (.cells #[.int .i64 r.e, .int .u64 r.p.a, .int .u64 r.p.b, .int .u64 r.c.a, .int .u64 r.c.b, .int .u64 r.n.a, .int .u64 r.n.b] 32))) (l := [.int .i64 f.a, .int .i64 f.p, .int .i64 f.ta, .int .i64 f.tp]) (T := 132) (g := w.heap.size + 1) (by simp)
   have B : Below w.heap.size w ((w.alloc (.cells #[.int .i64 r.e, .int .u64 r.p.a, .int .u64 r.p.b, .int .u64 r.c.a, .int .u64 r.c.b, .int .u64 r.n.a, .int .u64 r.n.b] 32)).alloc (.cells #[.int .i64 f.a, .int .i64 f.p, .int .i64 f.ta, .int .i64 f.tp] 132)) := (((Below.refl w.heap.size w).alloc (by first | exact Nat.le_refl _ | (simp; done) | (simp; omega)) (.cells #[.int .i64 r.e, .int .u64 r.p.a, .int .u64 r.p.b, .int .u64 r.c.a, .int .u64 r.c.b, .int .u64 r.n.a, .int .u64 r.n.b] 32)).alloc (by first | exact Nat.le_refl _ | (simp; done) | (simp; omega)) (.cells #[.int .i64 f.a, .int .i64 f.p, .int .i64 f.ta, .int .i64 f.tp] 132))
   generalize (w.alloc (.cells #[.int .i64 r.e, .int .u64 r.p.a, .int .u64 r.p.b, .int .u64 r.c.a, .int .u64 r.c.b, .int .u64 r.n.a, .int .u64 r.n.b] 32)).alloc (.cells #[.int .i64 f.a, .int .i64 f.p, .int .i64 f.ta, .int .i64 f.tp] 132) = w1 at *
   generalize w.heap.size + 1 = F at *
   generalize hK : w.heap.size = A at *
   refine (shapeOf_any kd T _ hkt).mono ?_
   rintro e' w2 ⟨rfl, hb⟩
   replace B := B.trans (hb.mono (Nat.le_of_lt CA.1))
   replace CA := CA.below hb
   replace CF := CF.below hb
   clear hb
   rw [HSH]
   obtain ⟨kA, qA, zA⟩ := id CA
   have cA0 := qA 0 _ rfl
   have cA1 := qA 1 _ rfl
   have cA2 := qA 2 _ rfl
   have cA3 := qA 3 _ rfl
   have cA4 := qA 4 _ rfl
   have cA5 := qA 5 _ rfl
   have cA6 := qA 6 _ rfl
   clear qA zA
   obtain ⟨kF, qF, zF⟩ := id CF
   have cF0 := qF 0 _ rfl
   have cF1 := qF 1 _ rfl
   have cF2 := qF 2 _ rfl
   have cF3 := qF 3 _ rfl
   clear qF zF
   go_wp2_with fail
   clear kA cA0 cA1 cA2 cA3 cA4 cA5 cA6
   clear kF cF0 cF1 cF2 cF3
   have CS := Ce.made (w := w2) (l := [.int .u64 s1, .int .u64 2, .int .u64 s2, .int .u64 6, .int .u64 0, .int .u64 s2]) (T := 177) (g := w2.heap.size) rfl
   replace B := B.alloc (Nat.le_of_lt CA.1) (.cells #[.int .u64 s1, .int .u64 2, .int .u64 s2, .int .u64 6, .int .u64 0, .int .u64 s2] 177)
   replace CA := CA.alloc (.cells #[.int .u64 s1, .int .u64 2, .int .u64 s2, .int .u64 6, .int .u64 0, .int .u64 s2] 177)
   replace CF := CF.alloc (.cells #[.int .u64 s1, .int .u64 2, .int .u64 s2, .int .u64 6, .int .u64 0, .int .u64 s2] 177)
   generalize w2.alloc (.cells #[.int .u64 s1, .int .u64 2, .int .u64 s2, .int .u64 6, .int .u64 0, .int .u64 s2] 177) = w3 at *
   generalize w2.heap.size = S at *
   obtain ⟨kA, qA, zA⟩ := id CA
   have cA0 := qA 0 _ rfl
   have cA1 := qA 1 _ rfl
   have cA2 := qA 2 _ rfl
   have cA3 := qA 3 _ rfl
   have cA4 := qA 4 _ rfl
   have cA5 := qA 5 _ rfl
   have cA6 := qA 6 _ rfl
   clear qA zA
   obtain ⟨kF, qF, zF⟩ := id CF
   have cF0 := qF 0 _ rfl
   have cF1 := qF 1 _ rfl
   have cF2 := qF 2 _ rfl
   have cF3 := qF 3 _ rfl
   clear qF zF
   obtain ⟨kS, qS, zS⟩ := id CS
   have cS0 := qS 0 _ rfl
   have cS1 := qS 1 _ rfl
   have cS2 := qS 2 _ rfl
   have cS3 := qS 3 _ rfl
   have cS4 := qS 4 _ rfl
   have cS5 := qS 5 _ rfl
   clear qS zS
   go_wp2_with fail
   refine (BY.out _).mono ?_
   rintro e' w4 ⟨rfl, hb⟩
   clear kA cA0 cA1 cA2 cA3 cA4 cA5 cA6
   clear kF cF0 cF1 cF2 cF3
   clear kS cS0 cS1 cS2 cS3 cS4 cS5
   replace B := B.trans (hb.mono (Nat.le_of_lt CA.1))
   replace CA := CA.below hb
   replace CF := CF.below hb
   replace CS := CS.below hb
   clear hb
   obtain ⟨kA, qA, zA⟩ := id CA
   have cA0 := qA 0 _ rfl
   have cA1 := qA 1 _ rfl
   have cA2 := qA 2 _ rfl
   have cA3 := qA 3 _ rfl
   have cA4 := qA 4 _ rfl
   have cA5 := qA 5 _ rfl
   have cA6 := qA 6 _ rfl
   clear qA zA
   obtain ⟨kF, qF, zF⟩ := id CF
   have cF0 := qF 0 _ rfl
   have cF1 := qF 1 _ rfl
   have cF2 := qF 2 _ rfl
   have cF3 := qF 3 _ rfl
   clear qF zF
   obtain ⟨kS, qS, zS⟩ := id CS
   have cS0 := qS 0 _ rfl
   have cS1 := qS 1 _ rfl
   have cS2 := qS 2 _ rfl
   have cS3 := qS 3 _ rfl
   have cS4 := qS 4 _ rfl
   have cS5 := qS 5 _ rfl
   clear qS zS
   go_wp2
   refine bodyPost_ret (by simp [results, Tryz.results87, go_sem]) rfl ⟨rfl, ?_⟩
   rw [hK]
   exact B
  ·rw [if_neg (by omega)] at ho
   have g0 : 0 ≤ c := by omega
   have g1 : ¬ M ≤ c := h1
   obtain ⟨e, he⟩ : ∃ e, e = c / (64 * T) := ⟨_, rfl⟩
   obtain ⟨m, hm⟩ : ∃ m, m = c / T % 64 := ⟨_, rfl⟩
   obtain ⟨t, ht⟩ : ∃ t, t = c % T := ⟨_, rfl⟩
   have he4 : c / (64 * T) % 4 = e := by rw [he]; clear he hm ht; rcases hT with rfl | rfl <;> omega
   have heb : I64 e := ⟨by omega, by omega⟩
   replace HI := fun k => HI.out k g0 (by omega)
   replace AP := AP.out
   have hmb : m % 64 = m := by omega
   rw [he4, ← hm, ← ht] at AP
   unfold slotOf at ho HI
   rw [← he, ← hm] at ho HI
   rw [← ht] at HI
   replace AP := hid AP
   replace HI := hid HI
   have KE := KY.out e
   clear KY h1
   have HE := hid he
   have HM := hid hm
   have HT := hid ht
   have HE4 := hid he4
   clear he hm ht he4
   cases hk : keyOf r e with
   | none =>
     rw [hk] at ho KE
     subst ho
     have KY := hid KE
     clear KE
     go_enter Tryz.func87, Tryz.ntmps87
     go_wp2_with fail
     have CA := Ce.made (w := w) (l := [.int .i64 r.e, .int .u64 r.p.a, .int .u64 r.p.b, .int .u64 r.c.a, .int .u64 r.c.b, .int .u64 r.n.a, .int .u64 r.n.b]) (T := 32) (g := w.heap.size) rfl
     replace CA := CA.alloc (.cells #[.int .i64 f.a, .int .i64 f.p, .int .i64 f.ta, .int .i64 f.tp] 132)
     have CF := Ce.made (w := (w.alloc (.cells #[.int .i64 r.e, .int .u64 r.p.a, .int .u64 r.p.b, .int .u64 r.c.a, .int .u64 r.c.b, .int .u64 r.n.a, .int .u64 r.n.b] 32))) (l := [.int .i64 f.a, .int .i64 f.p, .int .i64 f.ta, .int .i64 f.tp]) (T := 132) (g := w.heap.size + 1) (by simp)
     have B : Below w.heap.size w ((w.alloc (.cells #[.int .i64 r.e, .int .u64 r.p.a, .int .u64 r.p.b, .int .u64 r.c.a, .int .u64 r.c.b, .int .u64 r.n.a, .int .u64 r.n.b] 32)).alloc (.cells #[.int .i64 f.a, .int .i64 f.p, .int .i64 f.ta, .int .i64 f.tp] 132)) := (((Below.refl w.heap.size w).alloc (by first | exact Nat.le_refl _ | (simp; done) | (simp; omega)) (.cells #[.int .i64 r.e, .int .u64 r.p.a, .int .u64 r.p.b, .int .u64 r.c.a, .int .u64 r.c.b, .int .u64 r.n.a, .int .u64 r.n.b] 32)).alloc (by first | exact Nat.le_refl _ | (simp; done) | (simp; omega)) (.cells #[.int .i64 f.a, .int .i64 f.p, .int .i64 f.ta, .int .i64 f.tp] 132))
     generalize (w.alloc (.cells #[.int .i64 r.e, .int .u64 r.p.a, .int .u64 r.p.b, .int .u64 r.c.a, .int .u64 r.c.b, .int .u64 r.n.a, .int .u64 r.n.b] 32)).alloc (.cells #[.int .i64 f.a, .int .i64 f.p, .int .i64 f.ta, .int .i64 f.tp] 132) = w1 at *
     generalize w.heap.size + 1 = F at *
     generalize hK : w.heap.size = A at *
     refine (shapeOf_any kd T _ hkt).mono ?_
     rintro e' w2 ⟨rfl, hb⟩
     replace B := B.trans (hb.mono (Nat.le_of_lt CA.1))
     replace CA := CA.below hb
     replace CF := CF.below hb
     clear hb
     rw [HSH]
     obtain ⟨kA, qA, zA⟩ := id CA
     have cA0 := qA 0 _ rfl
     have cA1 := qA 1 _ rfl
     have cA2 := qA 2 _ rfl
     have cA3 := qA 3 _ rfl
     have cA4 := qA 4 _ rfl
     have cA5 := qA 5 _ rfl
     have cA6 := qA 6 _ rfl
     clear qA zA
     obtain ⟨kF, qF, zF⟩ := id CF
     have cF0 := qF 0 _ rfl
     have cF1 := qF 1 _ rfl
     have cF2 := qF 2 _ rfl
     have cF3 := qF 3 _ rfl
     clear qF zF
     go_wp2_with fail
     clear kA cA0 cA1 cA2 cA3 cA4 cA5 cA6
     clear kF cF0 cF1 cF2 cF3
     have CS := Ce.made (w := w2) (l := [.int .u64 s1, .int .u64 2, .int .u64 s2, .int .u64 6, .int .u64 0, .int .u64 s2]) (T := 177) (g := w2.heap.size) rfl
     replace B := B.alloc (Nat.le_of_lt CA.1) (.cells #[.int .u64 s1, .int .u64 2, .int .u64 s2, .int .u64 6, .int .u64 0, .int .u64 s2] 177)
     replace CA := CA.alloc (.cells #[.int .u64 s1, .int .u64 2, .int .u64 s2, .int .u64 6, .int .u64 0, .int .u64 s2] 177)
     replace CF := CF.alloc (.cells #[.int .u64 s1, .int .u64 2, .int .u64 s2, .int .u64 6, .int .u64 0, .int .u64 s2] 177)
     generalize w2.alloc (.cells #[.int .u64 s1, .int .u64 2, .int .u64 s2, .int .u64 6, .int .u64 0, .int .u64 s2] 177) = w3 at *
     generalize w2.heap.size = S at *
     obtain ⟨kA, qA, zA⟩ := id CA
     have cA0 := qA 0 _ rfl
     have cA1 := qA 1 _ rfl
     have cA2 := qA 2 _ rfl
     have cA3 := qA 3 _ rfl
     have cA4 := qA 4 _ rfl
     have cA5 := qA 5 _ rfl
     have cA6 := qA 6 _ rfl
     clear qA zA
     obtain ⟨kF, qF, zF⟩ := id CF
     have cF0 := qF 0 _ rfl
     have cF1 := qF 1 _ rfl
     have cF2 := qF 2 _ rfl
     have cF3 := qF 3 _ rfl
     clear qF zF
     obtain ⟨kS, qS, zS⟩ := id CS
     have cS0 := qS 0 _ rfl
     have cS1 := qS 1 _ rfl
     have cS2 := qS 2 _ rfl
     have cS3 := qS 3 _ rfl
     have cS4 := qS 4 _ rfl
     have cS5 := qS 5 _ rfl
     clear qS zS
     go_wp2_with fail
     refine (BY.out _).mono ?_
     rintro e' w4 ⟨rfl, hb⟩
     clear kA cA0 cA1 cA2 cA3 cA4 cA5 cA6
     clear kF cF0 cF1 cF2 cF3
     clear kS cS0 cS1 cS2 cS3 cS4 cS5
     replace B := B.trans (hb.mono (Nat.le_of_lt CA.1))
     replace CA := CA.below hb
     replace CF := CF.below hb
     replace CS := CS.below hb
     clear hb
     obtain ⟨kA, qA, zA⟩ := id CA
     have cA0 := qA 0 _ rfl
     have cA1 := qA 1 _ rfl
     have cA2 := qA 2 _ rfl
     have cA3 := qA 3 _ rfl
     have cA4 := qA 4 _ rfl
     have cA5 := qA 5 _ rfl
     have cA6 := qA 6 _ rfl
     clear qA zA
     obtain ⟨kF, qF, zF⟩ := id CF
     have cF0 := qF 0 _ rfl
     have cF1 := qF 1 _ rfl
     have cF2 := qF 2 _ rfl
     have cF3 := qF 3 _ rfl
     clear qF zF
     obtain ⟨kS, qS, zS⟩ := id CS
     have cS0 := qS 0 _ rfl
     have cS1 := qS 1 _ rfl
     have cS2 := qS 2 _ rfl
     have cS3 := qS 3 _ rfl
     have cS4 := qS 4 _ rfl
     have cS5 := qS 5 _ rfl
     clear qS zS
     go_wp2_with fail
     refine (AP.out _).mono ?_
     rintro e' w5 ⟨rfl, hb⟩
     replace B := B.trans (hb.mono (Nat.le_of_lt CA.1))
     replace CA := CA.below hb
     replace CF := CF.below hb
     replace CS := CS.below hb
     clear hb
     clear kA cA0 cA1 cA2 cA3 cA4 cA5 cA6
     clear kF cF0 cF1 cF2 cF3
     clear kS cS0 cS1 cS2 cS3 cS4 cS5
     obtain ⟨kA, qA, zA⟩ := id CA
     have cA0 := qA 0 _ rfl
     have cA1 := qA 1 _ rfl
     have cA2 := qA 2 _ rfl
     have cA3 := qA 3 _ rfl
     have cA4 := qA 4 _ rfl
     have cA5 := qA 5 _ rfl
     have cA6 := qA 6 _ rfl
     clear qA zA
     obtain ⟨kF, qF, zF⟩ := id CF
     have cF0 := qF 0 _ rfl
     have cF1 := qF 1 _ rfl
     have cF2 := qF 2 _ rfl
     have cF3 := qF 3 _ rfl
     clear qF zF
     obtain ⟨kS, qS, zS⟩ := id CS
     have cS0 := qS 0 _ rfl
     have cS1 := qS 1 _ rfl
     have cS2 := qS 2 _ rfl
     have cS3 := qS 3 _ rfl
     have cS4 := qS 4 _ rfl
     have cS5 := qS 5 _ rfl
     clear qS zS
     go_wp2_with fail
     clear kA cA0 cA1 cA2 cA3 cA4 cA5 cA6
     clear kF cF0 cF1 cF2 cF3
     clear kS cS0 cS1 cS2 cS3 cS4 cS5
     have CG := Ce.made (w := w5) (l := [.int .i64 e, .int .i64 m, .int .i64 t]) (T := 181) (g := w5.heap.size) rfl
     replace B := B.alloc (Nat.le_of_lt CA.1) (.cells #[.int .i64 e, .int .i64 m, .int .i64 t] 181)
     replace CA := CA.alloc (.cells #[.int .i64 e, .int .i64 m, .int .i64 t] 181)
     replace CF := CF.alloc (.cells #[.int .i64 e, .int .i64 m, .int .i64 t] 181)
     replace CS := CS.alloc (.cells #[.int .i64 e, .int .i64 m, .int .i64 t] 181)
     generalize w5.alloc (.cells #[.int .i64 e, .int .i64 m, .int .i64 t] 181) = w6 at *
     generalize w5.heap.size = G at *
     obtain ⟨kA, qA, zA⟩ := id CA
     have cA0 := qA 0 _ rfl
     have cA1 := qA 1 _ rfl
     have cA2 := qA 2 _ rfl
     have cA3 := qA 3 _ rfl
     have cA4 := qA 4 _ rfl
     have cA5 := qA 5 _ rfl
     have cA6 := qA 6 _ rfl
     clear qA zA
     obtain ⟨kF, qF, zF⟩ := id CF
     have cF0 := qF 0 _ rfl
     have cF1 := qF 1 _ rfl
     have cF2 := qF 2 _ rfl
     have cF3 := qF 3 _ rfl
     clear qF zF
     obtain ⟨kS, qS, zS⟩ := id CS
     have cS0 := qS 0 _ rfl
     have cS1 := qS 1 _ rfl
     have cS2 := qS 2 _ rfl
     have cS3 := qS 3 _ rfl
     have cS4 := qS 4 _ rfl
     have cS5 := qS 5 _ rfl
     clear qS zS
     obtain ⟨kG, qG, zG⟩ := id CG
     have cG0 := qG 0 _ rfl
     have cG1 := qG 1 _ rfl
     have cG2 := qG 2 _ rfl
     clear qG zG
     go_wp2_with fail
     refine (KY.out _).mono ?_
     rintro e' w7 ⟨rfl, hb⟩
     replace B := B.trans (hb.mono (Nat.le_of_lt CA.1))
     replace CA := CA.below hb
     replace CF := CF.below hb
     replace CS := CS.below hb
     replace CG := CG.below hb
     clear hb
     clear kA cA0 cA1 cA2 cA3 cA4 cA5 cA6
     clear kF cF0 cF1 cF2 cF3
     clear kS cS0 cS1 cS2 cS3 cS4 cS5
     clear kG cG0 cG1 cG2
     obtain ⟨kA, qA, zA⟩ := id CA
     have cA0 := qA 0 _ rfl
     have cA1 := qA 1 _ rfl
     have cA2 := qA 2 _ rfl
     have cA3 := qA 3 _ rfl
     have cA4 := qA 4 _ rfl
     have cA5 := qA 5 _ rfl
     have cA6 := qA 6 _ rfl
     clear qA zA
     obtain ⟨kF, qF, zF⟩ := id CF
     have cF0 := qF 0 _ rfl
     have cF1 := qF 1 _ rfl
     have cF2 := qF 2 _ rfl
     have cF3 := qF 3 _ rfl
     clear qF zF
     obtain ⟨kS, qS, zS⟩ := id CS
     have cS0 := qS 0 _ rfl
     have cS1 := qS 1 _ rfl
     have cS2 := qS 2 _ rfl
     have cS3 := qS 3 _ rfl
     have cS4 := qS 4 _ rfl
     have cS5 := qS 5 _ rfl
     clear qS zS
     obtain ⟨kG, qG, zG⟩ := id CG
     have cG0 := qG 0 _ rfl
     have cG1 := qG 1 _ rfl
     have cG2 := qG 2 _ rfl
     clear qG zG
     go_wp2_with fail
     refine bodyPost_ret (by simp [results, Tryz.results87, go_sem]) rfl ⟨rfl, ?_⟩
     rw [hK]
     exact B.alloc (Nat.le_of_lt CA.1) _
   | some k =>
     rw [hk] at ho KE
     simp only at ho
     obtain ⟨sl, hsl⟩ : ∃ sl, sl = xr m (W7 k kd f 64 e % 64) := ⟨_, rfl⟩
     rw [← hsl] at ho
     have hslb : 0 ≤ sl ∧ sl < 64 := by rw [hsl]; exact xr_bd _ _ ⟨by omega, by omega⟩ ⟨by omega, by omega⟩
     have HI2 := HI.out k
     rw [← hsl] at HI2
     have hx : bits .xor .i64 m (wrap64 (W7 k kd f 64 e)) % 64 = sl := by
      rw [xor64, show wrap64 (W7 k kd f 64 e) % 64 = W7 k kd f 64 e % 64 from w64_mod _ 6 (by omega), hmb, hsl]
     have hback : xr (sl % 64) (W7 k kd f 64 e % 64) = m := by
      rw [show sl % 64 = sl from by omega, hsl, xr_back _ _ (by omega)]
     have MK2 := hid (MK.out k e heb)
     have MD2 := MD.out k sl e ⟨by omega, by omega⟩ heb
     rw [hback] at MD2
     obtain ⟨tv, htv⟩ : ∃ tv, tv = W7 k kd f sl e % T := ⟨_, rfl⟩
     rw [← htv] at MD2 HI2
     replace MD2 := hid MD2
     clear htv hback hsl MD MK HI hk hslb
     by_cases htt : tv = t
     ·rw [if_pos (HI2.2 htt)] at ho
      subst ho
      have HT2 := hid htt
      subst htt
      clear HI2 HT2
      have KY := hid KE
      clear KE
      go_enter Tryz.func87, Tryz.ntmps87
      go_wp2_with fail
      have CA := Ce.made (w := w) (l := [.int .i64 r.e, .int .u64 r.p.a, .int .u64 r.p.b, .int .u64 r.c.a, .int .u64 r.c.b, .int .u64 r.n.a, .int .u64 r.n.b]) (T := 32) (g := w.heap.size) rfl
      replace CA := CA.alloc (.cells #[.int .i64 f.a, .int .i64 f.p, .int .i64 f.ta, .int .i64 f.tp] 132)
      have CF := Ce.made (w := (w.alloc (.cells #[.int .i64 r.e, .int .u64 r.p.a, .int .u64 r.p.b, .int .u64 r.c.a, .int .u64 r.c.b, .int .u64 r.n.a, .int .u64 r.n.b] 32))) (l := [.int .i64 f.a, .int .i64 f.p, .int .i64 f.ta, .int .i64 f.tp]) (T := 132) (g := w.heap.size + 1) (by simp)
      have B : Below w.heap.size w ((w.alloc (.cells #[.int .i64 r.e, .int .u64 r.p.a, .int .u64 r.p.b, .int .u64 r.c.a, .int .u64 r.c.b, .int .u64 r.n.a, .int .u64 r.n.b] 32)).alloc (.cells #[.int .i64 f.a, .int .i64 f.p, .int .i64 f.ta, .int .i64 f.tp] 132)) := (((Below.refl w.heap.size w).alloc (by first | exact Nat.le_refl _ | (simp; done) | (simp; omega)) (.cells #[.int .i64 r.e, .int .u64 r.p.a, .int .u64 r.p.b, .int .u64 r.c.a, .int .u64 r.c.b, .int .u64 r.n.a, .int .u64 r.n.b] 32)).alloc (by first | exact Nat.le_refl _ | (simp; done) | (simp; omega)) (.cells #[.int .i64 f.a, .int .i64 f.p, .int .i64 f.ta, .int .i64 f.tp] 132))
      generalize (w.alloc (.cells #[.int .i64 r.e, .int .u64 r.p.a, .int .u64 r.p.b, .int .u64 r.c.a, .int .u64 r.c.b, .int .u64 r.n.a, .int .u64 r.n.b] 32)).alloc (.cells #[.int .i64 f.a, .int .i64 f.p, .int .i64 f.ta, .int .i64 f.tp] 132) = w1 at *
      generalize w.heap.size + 1 = F at *
      generalize hK : w.heap.size = A at *
      refine (shapeOf_any kd T _ hkt).mono ?_
      rintro e' w2 ⟨rfl, hb⟩
      replace B := B.trans (hb.mono (Nat.le_of_lt CA.1))
      replace CA := CA.below hb
      replace CF := CF.below hb
      clear hb
      rw [HSH]
      obtain ⟨kA, qA, zA⟩ := id CA
      have cA0 := qA 0 _ rfl
      have cA1 := qA 1 _ rfl
      have cA2 := qA 2 _ rfl
      have cA3 := qA 3 _ rfl
      have cA4 := qA 4 _ rfl
      have cA5 := qA 5 _ rfl
      have cA6 := qA 6 _ rfl
      clear qA zA
      obtain ⟨kF, qF, zF⟩ := id CF
      have cF0 := qF 0 _ rfl
      have cF1 := qF 1 _ rfl
      have cF2 := qF 2 _ rfl
      have cF3 := qF 3 _ rfl
      clear qF zF
      go_wp2_with fail
      clear kA cA0 cA1 cA2 cA3 cA4 cA5 cA6
      clear kF cF0 cF1 cF2 cF3
      have CS := Ce.made (w := w2) (l := [.int .u64 s1, .int .u64 2, .int .u64 s2, .int .u64 6, .int .u64 0, .int .u64 s2]) (T := 177) (g := w2.heap.size) rfl
      replace B := B.alloc (Nat.le_of_lt CA.1) (.cells #[.int .u64 s1, .int .u64 2, .int .u64 s2, .int .u64 6, .int .u64 0, .int .u64 s2] 177)
      replace CA := CA.alloc (.cells #[.int .u64 s1, .int .u64 2, .int .u64 s2, .int .u64 6, .int .u64 0, .int .u64 s2] 177)
      replace CF := CF.alloc (.cells #[.int .u64 s1, .int .u64 2, .int .u64 s2, .int .u64 6, .int .u64 0, .int .u64 s2] 177)
      generalize w2.alloc (.cells #[.int .u64 s1, .int .u64 2, .int .u64 s2, .int .u64 6, .int .u64 0, .int .u64 s2] 177) = w3 at *
      generalize w2.heap.size = S at *
      obtain ⟨kA, qA, zA⟩ := id CA
      have cA0 := qA 0 _ rfl
      have cA1 := qA 1 _ rfl
      have cA2 := qA 2 _ rfl
      have cA3 := qA 3 _ rfl
      have cA4 := qA 4 _ rfl
      have cA5 := qA 5 _ rfl
      have cA6 := qA 6 _ rfl
      clear qA zA
      obtain ⟨kF, qF, zF⟩ := id CF
      have cF0 := qF 0 _ rfl
      have cF1 := qF 1 _ rfl
      have cF2 := qF 2 _ rfl
      have cF3 := qF 3 _ rfl
      clear qF zF
      obtain ⟨kS, qS, zS⟩ := id CS
      have cS0 := qS 0 _ rfl
      have cS1 := qS 1 _ rfl
      have cS2 := qS 2 _ rfl
      have cS3 := qS 3 _ rfl
      have cS4 := qS 4 _ rfl
      have cS5 := qS 5 _ rfl
      clear qS zS
      go_wp2_with fail
      refine (BY.out _).mono ?_
      rintro e' w4 ⟨rfl, hb⟩
      clear kA cA0 cA1 cA2 cA3 cA4 cA5 cA6
      clear kF cF0 cF1 cF2 cF3
      clear kS cS0 cS1 cS2 cS3 cS4 cS5
      replace B := B.trans (hb.mono (Nat.le_of_lt CA.1))
      replace CA := CA.below hb
      replace CF := CF.below hb
      replace CS := CS.below hb
      clear hb
      obtain ⟨kA, qA, zA⟩ := id CA
      have cA0 := qA 0 _ rfl
      have cA1 := qA 1 _ rfl
      have cA2 := qA 2 _ rfl
      have cA3 := qA 3 _ rfl
      have cA4 := qA 4 _ rfl
      have cA5 := qA 5 _ rfl
      have cA6 := qA 6 _ rfl
      clear qA zA
      obtain ⟨kF, qF, zF⟩ := id CF
      have cF0 := qF 0 _ rfl
      have cF1 := qF 1 _ rfl
      have cF2 := qF 2 _ rfl
      have cF3 := qF 3 _ rfl
      clear qF zF
      obtain ⟨kS, qS, zS⟩ := id CS
      have cS0 := qS 0 _ rfl
      have cS1 := qS 1 _ rfl
      have cS2 := qS 2 _ rfl
      have cS3 := qS 3 _ rfl
      have cS4 := qS 4 _ rfl
      have cS5 := qS 5 _ rfl
      clear qS zS
      go_wp2_with fail
      refine (AP.out _).mono ?_
      rintro e' w5 ⟨rfl, hb⟩
      replace B := B.trans (hb.mono (Nat.le_of_lt CA.1))
      replace CA := CA.below hb
      replace CF := CF.below hb
      replace CS := CS.below hb
      clear hb
      clear kA cA0 cA1 cA2 cA3 cA4 cA5 cA6
      clear kF cF0 cF1 cF2 cF3
      clear kS cS0 cS1 cS2 cS3 cS4 cS5
      obtain ⟨kA, qA, zA⟩ := id CA
      have cA0 := qA 0 _ rfl
      have cA1 := qA 1 _ rfl
      have cA2 := qA 2 _ rfl
      have cA3 := qA 3 _ rfl
      have cA4 := qA 4 _ rfl
      have cA5 := qA 5 _ rfl
      have cA6 := qA 6 _ rfl
      clear qA zA
      obtain ⟨kF, qF, zF⟩ := id CF
      have cF0 := qF 0 _ rfl
      have cF1 := qF 1 _ rfl
      have cF2 := qF 2 _ rfl
      have cF3 := qF 3 _ rfl
      clear qF zF
      obtain ⟨kS, qS, zS⟩ := id CS
      have cS0 := qS 0 _ rfl
      have cS1 := qS 1 _ rfl
      have cS2 := qS 2 _ rfl
      have cS3 := qS 3 _ rfl
      have cS4 := qS 4 _ rfl
      have cS5 := qS 5 _ rfl
      clear qS zS
      go_wp2_with fail
      clear kA cA0 cA1 cA2 cA3 cA4 cA5 cA6
      clear kF cF0 cF1 cF2 cF3
      clear kS cS0 cS1 cS2 cS3 cS4 cS5
      have CG := Ce.made (w := w5) (l := [.int .i64 e, .int .i64 m, .int .i64 tv]) (T := 181) (g := w5.heap.size) rfl
      replace B := B.alloc (Nat.le_of_lt CA.1) (.cells #[.int .i64 e, .int .i64 m, .int .i64 tv] 181)
      replace CA := CA.alloc (.cells #[.int .i64 e, .int .i64 m, .int .i64 tv] 181)
      replace CF := CF.alloc (.cells #[.int .i64 e, .int .i64 m, .int .i64 tv] 181)
      replace CS := CS.alloc (.cells #[.int .i64 e, .int .i64 m, .int .i64 tv] 181)
      generalize w5.alloc (.cells #[.int .i64 e, .int .i64 m, .int .i64 tv] 181) = w6 at *
      generalize w5.heap.size = G at *
      obtain ⟨kA, qA, zA⟩ := id CA
      have cA0 := qA 0 _ rfl
      have cA1 := qA 1 _ rfl
      have cA2 := qA 2 _ rfl
      have cA3 := qA 3 _ rfl
      have cA4 := qA 4 _ rfl
      have cA5 := qA 5 _ rfl
      have cA6 := qA 6 _ rfl
      clear qA zA
      obtain ⟨kF, qF, zF⟩ := id CF
      have cF0 := qF 0 _ rfl
      have cF1 := qF 1 _ rfl
      have cF2 := qF 2 _ rfl
      have cF3 := qF 3 _ rfl
      clear qF zF
      obtain ⟨kS, qS, zS⟩ := id CS
      have cS0 := qS 0 _ rfl
      have cS1 := qS 1 _ rfl
      have cS2 := qS 2 _ rfl
      have cS3 := qS 3 _ rfl
      have cS4 := qS 4 _ rfl
      have cS5 := qS 5 _ rfl
      clear qS zS
      obtain ⟨kG, qG, zG⟩ := id CG
      have cG0 := qG 0 _ rfl
      have cG1 := qG 1 _ rfl
      have cG2 := qG 2 _ rfl
      clear qG zG
      go_wp2_with fail
      refine (KY.out _).mono ?_
      rintro e' w7 ⟨rfl, hb⟩
      replace B := B.trans (hb.mono (Nat.le_of_lt CA.1))
      replace CA := CA.below hb
      replace CF := CF.below hb
      replace CS := CS.below hb
      replace CG := CG.below hb
      clear hb
      clear kA cA0 cA1 cA2 cA3 cA4 cA5 cA6
      clear kF cF0 cF1 cF2 cF3
      clear kS cS0 cS1 cS2 cS3 cS4 cS5
      clear kG cG0 cG1 cG2
      obtain ⟨kA, qA, zA⟩ := id CA
      have cA0 := qA 0 _ rfl
      have cA1 := qA 1 _ rfl
      have cA2 := qA 2 _ rfl
      have cA3 := qA 3 _ rfl
      have cA4 := qA 4 _ rfl
      have cA5 := qA 5 _ rfl
      have cA6 := qA 6 _ rfl
      clear qA zA
      obtain ⟨kF, qF, zF⟩ := id CF
      have cF0 := qF 0 _ rfl
      have cF1 := qF 1 _ rfl
      have cF2 := qF 2 _ rfl
      have cF3 := qF 3 _ rfl
      clear qF zF
      obtain ⟨kS, qS, zS⟩ := id CS
      have cS0 := qS 0 _ rfl
      have cS1 := qS 1 _ rfl
      have cS2 := qS 2 _ rfl
      have cS3 := qS 3 _ rfl
      have cS4 := qS 4 _ rfl
      have cS5 := qS 5 _ rfl
      clear qS zS
      obtain ⟨kG, qG, zG⟩ := id CG
      have cG0 := qG 0 _ rfl
      have cG1 := qG 1 _ rfl
      have cG2 := qG 2 _ rfl
      clear qG zG
      go_wp2_with fail
      clear kA cA0 cA1 cA2 cA3 cA4 cA5 cA6
      clear kF cF0 cF1 cF2 cF3
      clear kS cS0 cS1 cS2 cS3 cS4 cS5
      clear kG cG0 cG1 cG2
      have CD := Ce.made (w := w7) (l := [.int .u64 k.a, .int .u64 k.b]) (T := 30) (g := w7.heap.size) rfl
      replace B := B.alloc (Nat.le_of_lt CA.1) (.cells #[.int .u64 k.a, .int .u64 k.b] 30)
      replace CA := CA.alloc (.cells #[.int .u64 k.a, .int .u64 k.b] 30)
      replace CF := CF.alloc (.cells #[.int .u64 k.a, .int .u64 k.b] 30)
      replace CS := CS.alloc (.cells #[.int .u64 k.a, .int .u64 k.b] 30)
      replace CG := CG.alloc (.cells #[.int .u64 k.a, .int .u64 k.b] 30)
      generalize w7.alloc (.cells #[.int .u64 k.a, .int .u64 k.b] 30) = w8 at *
      generalize w7.heap.size = D at *
      obtain ⟨kA, qA, zA⟩ := id CA
      have cA0 := qA 0 _ rfl
      have cA1 := qA 1 _ rfl
      have cA2 := qA 2 _ rfl
      have cA3 := qA 3 _ rfl
      have cA4 := qA 4 _ rfl
      have cA5 := qA 5 _ rfl
      have cA6 := qA 6 _ rfl
      clear qA zA
      obtain ⟨kF, qF, zF⟩ := id CF
      have cF0 := qF 0 _ rfl
      have cF1 := qF 1 _ rfl
      have cF2 := qF 2 _ rfl
      have cF3 := qF 3 _ rfl
      clear qF zF
      obtain ⟨kS, qS, zS⟩ := id CS
      have cS0 := qS 0 _ rfl
      have cS1 := qS 1 _ rfl
      have cS2 := qS 2 _ rfl
      have cS3 := qS 3 _ rfl
      have cS4 := qS 4 _ rfl
      have cS5 := qS 5 _ rfl
      clear qS zS
      obtain ⟨kG, qG, zG⟩ := id CG
      have cG0 := qG 0 _ rfl
      have cG1 := qG 1 _ rfl
      have cG2 := qG 2 _ rfl
      clear qG zG
      obtain ⟨kD, qD, zD⟩ := id CD
      have cD0 := qD 0 _ rfl
      have cD1 := qD 1 _ rfl
      clear qD zD
      go_region_held3 (fun w' => w'.cell? ⟨F, 0, none⟩ = some (.int .i64 f.a) ∧ w'.cell? ⟨F, 1, none⟩ = some (.int .i64 f.p) ∧ w'.cell? ⟨F, 2, none⟩ = some (.int .i64 f.ta) ∧ w'.cell? ⟨F, 3, none⟩ = some (.int .i64 f.tp) ∧ w'.cell? ⟨S, 0, none⟩ = some (.int .u64 s1) ∧ w'.cell? ⟨S, 1, none⟩ = some (.int .u64 2) ∧ w'.cell? ⟨S, 2, none⟩ = some (.int .u64 s2) ∧ w'.cell? ⟨S, 3, none⟩ = some (.int .u64 6) ∧ w'.cell? ⟨S, 4, none⟩ = some (.int .u64 0) ∧ w'.cell? ⟨S, 5, none⟩ = some (.int .u64 s2) ∧ w'.cell? ⟨G, 0, none⟩ = some (.int .i64 e) ∧ w'.cell? ⟨G, 1, none⟩ = some (.int .i64 m) ∧ w'.cell? ⟨G, 2, none⟩ = some (.int .i64 tv) ∧ w'.cell? ⟨D, 0, none⟩ = some (.int .u64 k.a) ∧ w'.cell? ⟨D, 1, none⟩ = some (.int .u64 k.b) ∧ F < w'.heap.size ∧ S < w'.heap.size ∧ G < w'.heap.size ∧ D < w'.heap.size ∧ A < w'.heap.size ∧ Below A w w')
       (first
        | (go_split_ands; refine ⟨?_, ?_, ?_, ?_, ?_, ?_, ?_, ?_, ?_, ?_, ?_, ?_, ?_, ?_, ?_, ?_, ?_, ?_, ?_, ?_, ?_⟩; exact (hb5.cell (p := ⟨F, 0, none⟩) (by assumption)).trans (by assumption); exact (hb5.cell (p := ⟨F, 1, none⟩) (by assumption)).trans (by assumption); exact (hb5.cell (p := ⟨F, 2, none⟩) (by assumption)).trans (by assumption); exact (hb5.cell (p := ⟨F, 3, none⟩) (by assumption)).trans (by assumption); exact (hb5.cell (p := ⟨S, 0, none⟩) (by assumption)).trans (by assumption); exact (hb5.cell (p := ⟨S, 1, none⟩) (by assumption)).trans (by assumption); exact (hb5.cell (p := ⟨S, 2, none⟩) (by assumption)).trans (by assumption); exact (hb5.cell (p := ⟨S, 3, none⟩) (by assumption)).trans (by assumption); exact (hb5.cell (p := ⟨S, 4, none⟩) (by assumption)).trans (by assumption); exact (hb5.cell (p := ⟨S, 5, none⟩) (by assumption)).trans (by assumption); exact (hb5.cell (p := ⟨G, 0, none⟩) (by assumption)).trans (by assumption); exact (hb5.cell (p := ⟨G, 1, none⟩) (by assumption)).trans (by assumption); exact (hb5.cell (p := ⟨G, 2, none⟩) (by assumption)).trans (by assumption); exact (hb5.cell (p := ⟨D, 0, none⟩) (by assumption)).trans (by assumption); exact (hb5.cell (p := ⟨D, 1, none⟩) (by assumption)).trans (by assumption); exact Nat.lt_of_lt_of_le (by assumption) hb5.size; exact Nat.lt_of_lt_of_le (by assumption) hb5.size; exact Nat.lt_of_lt_of_le (by assumption) hb5.size; exact Nat.lt_of_lt_of_le (by assumption) hb5.size; exact Nat.lt_of_lt_of_le (by assumption) hb5.size; exact Below.trans (by assumption) (hb5.mono (by first | exact Nat.le_of_lt (by assumption) | exact Below.size (by assumption))))
        | (refine ⟨?_, ?_, ?_, ?_, ?_, ?_, ?_, ?_, ?_, ?_, ?_, ?_, ?_, ?_, ?_, ?_, ?_, ?_, ?_, ?_, ?_⟩; assumption; assumption; assumption; assumption; assumption; assumption; assumption; assumption; assumption; assumption; assumption; assumption; assumption; assumption; assumption; assumption; assumption; assumption; assumption; assumption; exact Below.drew (by assumption))
        | (go_split_ands; refine ⟨?_, ?_, ?_, ?_, ?_, ?_, ?_, ?_, ?_, ?_, ?_, ?_, ?_, ?_, ?_, ?_, ?_, ?_, ?_, ?_, ?_⟩; exact (World.cell?_alloc_lt _ _ ⟨F, 0, none⟩ (by assumption)).trans (by assumption); exact (World.cell?_alloc_lt _ _ ⟨F, 1, none⟩ (by assumption)).trans (by assumption); exact (World.cell?_alloc_lt _ _ ⟨F, 2, none⟩ (by assumption)).trans (by assumption); exact (World.cell?_alloc_lt _ _ ⟨F, 3, none⟩ (by assumption)).trans (by assumption); exact (World.cell?_alloc_lt _ _ ⟨S, 0, none⟩ (by assumption)).trans (by assumption); exact (World.cell?_alloc_lt _ _ ⟨S, 1, none⟩ (by assumption)).trans (by assumption); exact (World.cell?_alloc_lt _ _ ⟨S, 2, none⟩ (by assumption)).trans (by assumption); exact (World.cell?_alloc_lt _ _ ⟨S, 3, none⟩ (by assumption)).trans (by assumption); exact (World.cell?_alloc_lt _ _ ⟨S, 4, none⟩ (by assumption)).trans (by assumption); exact (World.cell?_alloc_lt _ _ ⟨S, 5, none⟩ (by assumption)).trans (by assumption); exact (World.cell?_alloc_lt _ _ ⟨G, 0, none⟩ (by assumption)).trans (by assumption); exact (World.cell?_alloc_lt _ _ ⟨G, 1, none⟩ (by assumption)).trans (by assumption); exact (World.cell?_alloc_lt _ _ ⟨G, 2, none⟩ (by assumption)).trans (by assumption); exact (World.cell?_alloc_lt _ _ ⟨D, 0, none⟩ (by assumption)).trans (by assumption); exact (World.cell?_alloc_lt _ _ ⟨D, 1, none⟩ (by assumption)).trans (by assumption); (simp; omega); (simp; omega); (simp; omega); (simp; omega); (simp; omega); exact Below.alloc (by assumption) (by first | exact Nat.le_of_lt (by assumption) | exact Below.size (by assumption)) _)
        | (go_split_ands; refine ⟨?_, ?_, ?_, ?_, ?_, ?_, ?_, ?_, ?_, ?_, ?_, ?_, ?_, ?_, ?_, ?_, ?_, ?_, ?_, ?_, ?_⟩; exact (World.cell?_alloc_lt _ _ ⟨F, 0, none⟩ (by assumption)).trans (by assumption); exact (World.cell?_alloc_lt _ _ ⟨F, 1, none⟩ (by assumption)).trans (by assumption); exact (World.cell?_alloc_lt _ _ ⟨F, 2, none⟩ (by assumption)).trans (by assumption); exact (World.cell?_alloc_lt _ _ ⟨F, 3, none⟩ (by assumption)).trans (by assumption); exact (World.cell?_alloc_lt _ _ ⟨S, 0, none⟩ (by assumption)).trans (by assumption); exact (World.cell?_alloc_lt _ _ ⟨S, 1, none⟩ (by assumption)).trans (by assumption); exact (World.cell?_alloc_lt _ _ ⟨S, 2, none⟩ (by assumption)).trans (by assumption); exact (World.cell?_alloc_lt _ _ ⟨S, 3, none⟩ (by assumption)).trans (by assumption); exact (World.cell?_alloc_lt _ _ ⟨S, 4, none⟩ (by assumption)).trans (by assumption); exact (World.cell?_alloc_lt _ _ ⟨S, 5, none⟩ (by assumption)).trans (by assumption); exact (World.cell?_alloc_lt _ _ ⟨G, 0, none⟩ (by assumption)).trans (by assumption); exact (World.cell?_alloc_lt _ _ ⟨G, 1, none⟩ (by assumption)).trans (by assumption); exact (World.cell?_alloc_lt _ _ ⟨G, 2, none⟩ (by assumption)).trans (by assumption); exact (World.cell?_alloc_lt _ _ ⟨D, 0, none⟩ (by assumption)).trans (by assumption); exact (World.cell?_alloc_lt _ _ ⟨D, 1, none⟩ (by assumption)).trans (by assumption); exact Nat.lt_of_lt_of_le (by assumption) (Below.drew (Below.alloc (Below.refl _ _) (Nat.le_refl _) _)).size; exact Nat.lt_of_lt_of_le (by assumption) (Below.drew (Below.alloc (Below.refl _ _) (Nat.le_refl _) _)).size; exact Nat.lt_of_lt_of_le (by assumption) (Below.drew (Below.alloc (Below.refl _ _) (Nat.le_refl _) _)).size; exact Nat.lt_of_lt_of_le (by assumption) (Below.drew (Below.alloc (Below.refl _ _) (Nat.le_refl _) _)).size; exact Nat.lt_of_lt_of_le (by assumption) (Below.drew (Below.alloc (Below.refl _ _) (Nat.le_refl _) _)).size; exact Below.drew (Below.alloc (by assumption) (Below.size (by assumption)) _))
        | (go_split_ands; refine ⟨?_, ?_, ?_, ?_, ?_, ?_, ?_, ?_, ?_, ?_, ?_, ?_, ?_, ?_, ?_, ?_, ?_, ?_, ?_, ?_, ?_⟩; assumption; assumption; assumption; assumption; assumption; assumption; assumption; assumption; assumption; assumption; assumption; assumption; assumption; assumption; assumption; assumption; assumption; assumption; assumption; assumption; assumption)
        | go_keep)
       ((first
         | (go_at_call 126
            go_split_ands
            with_reducible refine (MK2.out _).mono ?_
            rintro e w5 ⟨rfl, hb5⟩)
         | (go_at_call 125
            go_split_ands
            with_reducible refine (cutI s2 6 _ _ ?_).mono ?_
            ·decide
            rintro e w5 ⟨rfl, hb5⟩)))
      go_split_ands
      go_wp2_with fail
      go_region_held3 (fun w' => w'.cell? ⟨F, 0, none⟩ = some (.int .i64 f.a) ∧ w'.cell? ⟨F, 1, none⟩ = some (.int .i64 f.p) ∧ w'.cell? ⟨F, 2, none⟩ = some (.int .i64 f.ta) ∧ w'.cell? ⟨F, 3, none⟩ = some (.int .i64 f.tp) ∧ w'.cell? ⟨S, 0, none⟩ = some (.int .u64 s1) ∧ w'.cell? ⟨S, 1, none⟩ = some (.int .u64 2) ∧ w'.cell? ⟨S, 2, none⟩ = some (.int .u64 s2) ∧ w'.cell? ⟨S, 3, none⟩ = some (.int .u64 6) ∧ w'.cell? ⟨S, 4, none⟩ = some (.int .u64 0) ∧ w'.cell? ⟨S, 5, none⟩ = some (.int .u64 s2) ∧ w'.cell? ⟨G, 0, none⟩ = some (.int .i64 e) ∧ w'.cell? ⟨G, 1, none⟩ = some (.int .i64 m) ∧ w'.cell? ⟨G, 2, none⟩ = some (.int .i64 tv) ∧ w'.cell? ⟨D, 0, none⟩ = some (.int .u64 k.a) ∧ w'.cell? ⟨D, 1, none⟩ = some (.int .u64 k.b) ∧ F < w'.heap.size ∧ S < w'.heap.size ∧ G < w'.heap.size ∧ D < w'.heap.size ∧ A < w'.heap.size ∧ Below A w w')
       (first
        | (go_split_ands; refine ⟨?_, ?_, ?_, ?_, ?_, ?_, ?_, ?_, ?_, ?_, ?_, ?_, ?_, ?_, ?_, ?_, ?_, ?_, ?_, ?_, ?_⟩; exact (hb5.cell (p := ⟨F, 0, none⟩) (by assumption)).trans (by assumption); exact (hb5.cell (p := ⟨F, 1, none⟩) (by assumption)).trans (by assumption); exact (hb5.cell (p := ⟨F, 2, none⟩) (by assumption)).trans (by assumption); exact (hb5.cell (p := ⟨F, 3, none⟩) (by assumption)).trans (by assumption); exact (hb5.cell (p := ⟨S, 0, none⟩) (by assumption)).trans (by assumption); exact (hb5.cell (p := ⟨S, 1, none⟩) (by assumption)).trans (by assumption); exact (hb5.cell (p := ⟨S, 2, none⟩) (by assumption)).trans (by assumption); exact (hb5.cell (p := ⟨S, 3, none⟩) (by assumption)).trans (by assumption); exact (hb5.cell (p := ⟨S, 4, none⟩) (by assumption)).trans (by assumption); exact (hb5.cell (p := ⟨S, 5, none⟩) (by assumption)).trans (by assumption); exact (hb5.cell (p := ⟨G, 0, none⟩) (by assumption)).trans (by assumption); exact (hb5.cell (p := ⟨G, 1, none⟩) (by assumption)).trans (by assumption); exact (hb5.cell (p := ⟨G, 2, none⟩) (by assumption)).trans (by assumption); exact (hb5.cell (p := ⟨D, 0, none⟩) (by assumption)).trans (by assumption); exact (hb5.cell (p := ⟨D, 1, none⟩) (by assumption)).trans (by assumption); exact Nat.lt_of_lt_of_le (by assumption) hb5.size; exact Nat.lt_of_lt_of_le (by assumption) hb5.size; exact Nat.lt_of_lt_of_le (by assumption) hb5.size; exact Nat.lt_of_lt_of_le (by assumption) hb5.size; exact Nat.lt_of_lt_of_le (by assumption) hb5.size; exact Below.trans (by assumption) (hb5.mono (by first | exact Nat.le_of_lt (by assumption) | exact Below.size (by assumption))))
        | (refine ⟨?_, ?_, ?_, ?_, ?_, ?_, ?_, ?_, ?_, ?_, ?_, ?_, ?_, ?_, ?_, ?_, ?_, ?_, ?_, ?_, ?_⟩; assumption; assumption; assumption; assumption; assumption; assumption; assumption; assumption; assumption; assumption; assumption; assumption; assumption; assumption; assumption; assumption; assumption; assumption; assumption; assumption; exact Below.drew (by assumption))
        | (go_split_ands; refine ⟨?_, ?_, ?_, ?_, ?_, ?_, ?_, ?_, ?_, ?_, ?_, ?_, ?_, ?_, ?_, ?_, ?_, ?_, ?_, ?_, ?_⟩; exact (World.cell?_alloc_lt _ _ ⟨F, 0, none⟩ (by assumption)).trans (by assumption); exact (World.cell?_alloc_lt _ _ ⟨F, 1, none⟩ (by assumption)).trans (by assumption); exact (World.cell?_alloc_lt _ _ ⟨F, 2, none⟩ (by assumption)).trans (by assumption); exact (World.cell?_alloc_lt _ _ ⟨F, 3, none⟩ (by assumption)).trans (by assumption); exact (World.cell?_alloc_lt _ _ ⟨S, 0, none⟩ (by assumption)).trans (by assumption); exact (World.cell?_alloc_lt _ _ ⟨S, 1, none⟩ (by assumption)).trans (by assumption); exact (World.cell?_alloc_lt _ _ ⟨S, 2, none⟩ (by assumption)).trans (by assumption); exact (World.cell?_alloc_lt _ _ ⟨S, 3, none⟩ (by assumption)).trans (by assumption); exact (World.cell?_alloc_lt _ _ ⟨S, 4, none⟩ (by assumption)).trans (by assumption); exact (World.cell?_alloc_lt _ _ ⟨S, 5, none⟩ (by assumption)).trans (by assumption); exact (World.cell?_alloc_lt _ _ ⟨G, 0, none⟩ (by assumption)).trans (by assumption); exact (World.cell?_alloc_lt _ _ ⟨G, 1, none⟩ (by assumption)).trans (by assumption); exact (World.cell?_alloc_lt _ _ ⟨G, 2, none⟩ (by assumption)).trans (by assumption); exact (World.cell?_alloc_lt _ _ ⟨D, 0, none⟩ (by assumption)).trans (by assumption); exact (World.cell?_alloc_lt _ _ ⟨D, 1, none⟩ (by assumption)).trans (by assumption); (simp; omega); (simp; omega); (simp; omega); (simp; omega); (simp; omega); exact Below.alloc (by assumption) (by first | exact Nat.le_of_lt (by assumption) | exact Below.size (by assumption)) _)
        | (go_split_ands; refine ⟨?_, ?_, ?_, ?_, ?_, ?_, ?_, ?_, ?_, ?_, ?_, ?_, ?_, ?_, ?_, ?_, ?_, ?_, ?_, ?_, ?_⟩; exact (World.cell?_alloc_lt _ _ ⟨F, 0, none⟩ (by assumption)).trans (by assumption); exact (World.cell?_alloc_lt _ _ ⟨F, 1, none⟩ (by assumption)).trans (by assumption); exact (World.cell?_alloc_lt _ _ ⟨F, 2, none⟩ (by assumption)).trans (by assumption); exact (World.cell?_alloc_lt _ _ ⟨F, 3, none⟩ (by assumption)).trans (by assumption); exact (World.cell?_alloc_lt _ _ ⟨S, 0, none⟩ (by assumption)).trans (by assumption); exact (World.cell?_alloc_lt _ _ ⟨S, 1, none⟩ (by assumption)).trans (by assumption); exact (World.cell?_alloc_lt _ _ ⟨S, 2, none⟩ (by assumption)).trans (by assumption); exact (World.cell?_alloc_lt _ _ ⟨S, 3, none⟩ (by assumption)).trans (by assumption); exact (World.cell?_alloc_lt _ _ ⟨S, 4, none⟩ (by assumption)).trans (by assumption); exact (World.cell?_alloc_lt _ _ ⟨S, 5, none⟩ (by assumption)).trans (by assumption); exact (World.cell?_alloc_lt _ _ ⟨G, 0, none⟩ (by assumption)).trans (by assumption); exact (World.cell?_alloc_lt _ _ ⟨G, 1, none⟩ (by assumption)).trans (by assumption); exact (World.cell?_alloc_lt _ _ ⟨G, 2, none⟩ (by assumption)).trans (by assumption); exact (World.cell?_alloc_lt _ _ ⟨D, 0, none⟩ (by assumption)).trans (by assumption); exact (World.cell?_alloc_lt _ _ ⟨D, 1, none⟩ (by assumption)).trans (by assumption); exact Nat.lt_of_lt_of_le (by assumption) (Below.drew (Below.alloc (Below.refl _ _) (Nat.le_refl _) _)).size; exact Nat.lt_of_lt_of_le (by assumption) (Below.drew (Below.alloc (Below.refl _ _) (Nat.le_refl _) _)).size; exact Nat.lt_of_lt_of_le (by assumption) (Below.drew (Below.alloc (Below.refl _ _) (Nat.le_refl _) _)).size; exact Nat.lt_of_lt_of_le (by assumption) (Below.drew (Below.alloc (Below.refl _ _) (Nat.le_refl _) _)).size; exact Nat.lt_of_lt_of_le (by assumption) (Below.drew (Below.alloc (Below.refl _ _) (Nat.le_refl _) _)).size; exact Below.drew (Below.alloc (by assumption) (Below.size (by assumption)) _))
        | (go_split_ands; refine ⟨?_, ?_, ?_, ?_, ?_, ?_, ?_, ?_, ?_, ?_, ?_, ?_, ?_, ?_, ?_, ?_, ?_, ?_, ?_, ?_, ?_⟩; assumption; assumption; assumption; assumption; assumption; assumption; assumption; assumption; assumption; assumption; assumption; assumption; assumption; assumption; assumption; assumption; assumption; assumption; assumption; assumption; assumption)
        | go_keep)
       ((first
         | (go_at_call 98
            go_split_ands
            with_reducible refine (MD2.out _).mono ?_
            rintro e w5 ⟨rfl, hb5⟩)))
      go_split_ands
      go_wp2_with fail
      refine bodyPost_ret (by simp [results, Tryz.results87, go_sem]) rfl ⟨rfl, ?_⟩
      first | assumption | (rw [hK]; assumption)
     ·rw [if_neg (fun h => htt (HI2.1 h))] at ho
      subst ho
      have hb1 : (tv == t) = false := by simp [htt]
      clear HI2
      have KY := hid KE
      clear KE
      go_enter Tryz.func87, Tryz.ntmps87
      go_wp2_with fail
      have CA := Ce.made (w := w) (l := [.int .i64 r.e, .int .u64 r.p.a, .int .u64 r.p.b, .int .u64 r.c.a, .int .u64 r.c.b, .int .u64 r.n.a, .int .u64 r.n.b]) (T := 32) (g := w.heap.size) rfl
      replace CA := CA.alloc (.cells #[.int .i64 f.a, .int .i64 f.p, .int .i64 f.ta, .int .i64 f.tp] 132)
      have CF := Ce.made (w := (w.alloc (.cells #[.int .i64 r.e, .int .u64 r.p.a, .int .u64 r.p.b, .int .u64 r.c.a, .int .u64 r.c.b, .int .u64 r.n.a, .int .u64 r.n.b] 32))) (l := [.int .i64 f.a, .int .i64 f.p, .int .i64 f.ta, .int .i64 f.tp]) (T := 132) (g := w.heap.size + 1) (by simp)
      have B : Below w.heap.size w ((w.alloc (.cells #[.int .i64 r.e, .int .u64 r.p.a, .int .u64 r.p.b, .int .u64 r.c.a, .int .u64 r.c.b, .int .u64 r.n.a, .int .u64 r.n.b] 32)).alloc (.cells #[.int .i64 f.a, .int .i64 f.p, .int .i64 f.ta, .int .i64 f.tp] 132)) := (((Below.refl w.heap.size w).alloc (by first | exact Nat.le_refl _ | (simp; done) | (simp; omega)) (.cells #[.int .i64 r.e, .int .u64 r.p.a, .int .u64 r.p.b, .int .u64 r.c.a, .int .u64 r.c.b, .int .u64 r.n.a, .int .u64 r.n.b] 32)).alloc (by first | exact Nat.le_refl _ | (simp; done) | (simp; omega)) (.cells #[.int .i64 f.a, .int .i64 f.p, .int .i64 f.ta, .int .i64 f.tp] 132))
      generalize (w.alloc (.cells #[.int .i64 r.e, .int .u64 r.p.a, .int .u64 r.p.b, .int .u64 r.c.a, .int .u64 r.c.b, .int .u64 r.n.a, .int .u64 r.n.b] 32)).alloc (.cells #[.int .i64 f.a, .int .i64 f.p, .int .i64 f.ta, .int .i64 f.tp] 132) = w1 at *
      generalize w.heap.size + 1 = F at *
      generalize hK : w.heap.size = A at *
      refine (shapeOf_any kd T _ hkt).mono ?_
      rintro e' w2 ⟨rfl, hb⟩
      replace B := B.trans (hb.mono (Nat.le_of_lt CA.1))
      replace CA := CA.below hb
      replace CF := CF.below hb
      clear hb
      rw [HSH]
      obtain ⟨kA, qA, zA⟩ := id CA
      have cA0 := qA 0 _ rfl
      have cA1 := qA 1 _ rfl
      have cA2 := qA 2 _ rfl
      have cA3 := qA 3 _ rfl
      have cA4 := qA 4 _ rfl
      have cA5 := qA 5 _ rfl
      have cA6 := qA 6 _ rfl
      clear qA zA
      obtain ⟨kF, qF, zF⟩ := id CF
      have cF0 := qF 0 _ rfl
      have cF1 := qF 1 _ rfl
      have cF2 := qF 2 _ rfl
      have cF3 := qF 3 _ rfl
      clear qF zF
      go_wp2_with fail
      clear kA cA0 cA1 cA2 cA3 cA4 cA5 cA6
      clear kF cF0 cF1 cF2 cF3
      have CS := Ce.made (w := w2) (l := [.int .u64 s1, .int .u64 2, .int .u64 s2, .int .u64 6, .int .u64 0, .int .u64 s2]) (T := 177) (g := w2.heap.size) rfl
      replace B := B.alloc (Nat.le_of_lt CA.1) (.cells #[.int .u64 s1, .int .u64 2, .int .u64 s2, .int .u64 6, .int .u64 0, .int .u64 s2] 177)
      replace CA := CA.alloc (.cells #[.int .u64 s1, .int .u64 2, .int .u64 s2, .int .u64 6, .int .u64 0, .int .u64 s2] 177)
      replace CF := CF.alloc (.cells #[.int .u64 s1, .int .u64 2, .int .u64 s2, .int .u64 6, .int .u64 0, .int .u64 s2] 177)
      generalize w2.alloc (.cells #[.int .u64 s1, .int .u64 2, .int .u64 s2, .int .u64 6, .int .u64 0, .int .u64 s2] 177) = w3 at *
      generalize w2.heap.size = S at *
      obtain ⟨kA, qA, zA⟩ := id CA
      have cA0 := qA 0 _ rfl
      have cA1 := qA 1 _ rfl
      have cA2 := qA 2 _ rfl
      have cA3 := qA 3 _ rfl
      have cA4 := qA 4 _ rfl
      have cA5 := qA 5 _ rfl
      have cA6 := qA 6 _ rfl
      clear qA zA
      obtain ⟨kF, qF, zF⟩ := id CF
      have cF0 := qF 0 _ rfl
      have cF1 := qF 1 _ rfl
      have cF2 := qF 2 _ rfl
      have cF3 := qF 3 _ rfl
      clear qF zF
      obtain ⟨kS, qS, zS⟩ := id CS
      have cS0 := qS 0 _ rfl
      have cS1 := qS 1 _ rfl
      have cS2 := qS 2 _ rfl
      have cS3 := qS 3 _ rfl
      have cS4 := qS 4 _ rfl
      have cS5 := qS 5 _ rfl
      clear qS zS
      go_wp2_with fail
      refine (BY.out _).mono ?_
      rintro e' w4 ⟨rfl, hb⟩
      clear kA cA0 cA1 cA2 cA3 cA4 cA5 cA6
      clear kF cF0 cF1 cF2 cF3
      clear kS cS0 cS1 cS2 cS3 cS4 cS5
      replace B := B.trans (hb.mono (Nat.le_of_lt CA.1))
      replace CA := CA.below hb
      replace CF := CF.below hb
      replace CS := CS.below hb
      clear hb
      obtain ⟨kA, qA, zA⟩ := id CA
      have cA0 := qA 0 _ rfl
      have cA1 := qA 1 _ rfl
      have cA2 := qA 2 _ rfl
      have cA3 := qA 3 _ rfl
      have cA4 := qA 4 _ rfl
      have cA5 := qA 5 _ rfl
      have cA6 := qA 6 _ rfl
      clear qA zA
      obtain ⟨kF, qF, zF⟩ := id CF
      have cF0 := qF 0 _ rfl
      have cF1 := qF 1 _ rfl
      have cF2 := qF 2 _ rfl
      have cF3 := qF 3 _ rfl
      clear qF zF
      obtain ⟨kS, qS, zS⟩ := id CS
      have cS0 := qS 0 _ rfl
      have cS1 := qS 1 _ rfl
      have cS2 := qS 2 _ rfl
      have cS3 := qS 3 _ rfl
      have cS4 := qS 4 _ rfl
      have cS5 := qS 5 _ rfl
      clear qS zS
      go_wp2_with fail
      refine (AP.out _).mono ?_
      rintro e' w5 ⟨rfl, hb⟩
      replace B := B.trans (hb.mono (Nat.le_of_lt CA.1))
      replace CA := CA.below hb
      replace CF := CF.below hb
      replace CS := CS.below hb
      clear hb
      clear kA cA0 cA1 cA2 cA3 cA4 cA5 cA6
      clear kF cF0 cF1 cF2 cF3
      clear kS cS0 cS1 cS2 cS3 cS4 cS5
      obtain ⟨kA, qA, zA⟩ := id CA
      have cA0 := qA 0 _ rfl
      have cA1 := qA 1 _ rfl
      have cA2 := qA 2 _ rfl
      have cA3 := qA 3 _ rfl
      have cA4 := qA 4 _ rfl
      have cA5 := qA 5 _ rfl
      have cA6 := qA 6 _ rfl
      clear qA zA
      obtain ⟨kF, qF, zF⟩ := id CF
      have cF0 := qF 0 _ rfl
      have cF1 := qF 1 _ rfl
      have cF2 := qF 2 _ rfl
      have cF3 := qF 3 _ rfl
      clear qF zF
      obtain ⟨kS, qS, zS⟩ := id CS
      have cS0 := qS 0 _ rfl
      have cS1 := qS 1 _ rfl
      have cS2 := qS 2 _ rfl
      have cS3 := qS 3 _ rfl
      have cS4 := qS 4 _ rfl
      have cS5 := qS 5 _ rfl
      clear qS zS
      go_wp2_with fail
      clear kA cA0 cA1 cA2 cA3 cA4 cA5 cA6
      clear kF cF0 cF1 cF2 cF3
      clear kS cS0 cS1 cS2 cS3 cS4 cS5
      have CG := Ce.made (w := w5) (l := [.int .i64 e, .int .i64 m, .int .i64 t]) (T := 181) (g := w5.heap.size) rfl
      replace B := B.alloc (Nat.le_of_lt CA.1) (.cells #[.int .i64 e, .int .i64 m, .int .i64 t] 181)
      replace CA := CA.alloc (.cells #[.int .i64 e, .int .i64 m, .int .i64 t] 181)
      replace CF := CF.alloc (.cells #[.int .i64 e, .int .i64 m, .int .i64 t] 181)
      replace CS := CS.alloc (.cells #[.int .i64 e, .int .i64 m, .int .i64 t] 181)
      generalize w5.alloc (.cells #[.int .i64 e, .int .i64 m, .int .i64 t] 181) = w6 at *
      generalize w5.heap.size = G at *
      obtain ⟨kA, qA, zA⟩ := id CA
      have cA0 := qA 0 _ rfl
      have cA1 := qA 1 _ rfl
      have cA2 := qA 2 _ rfl
      have cA3 := qA 3 _ rfl
      have cA4 := qA 4 _ rfl
      have cA5 := qA 5 _ rfl
      have cA6 := qA 6 _ rfl
      clear qA zA
      obtain ⟨kF, qF, zF⟩ := id CF
      have cF0 := qF 0 _ rfl
      have cF1 := qF 1 _ rfl
      have cF2 := qF 2 _ rfl
      have cF3 := qF 3 _ rfl
      clear qF zF
      obtain ⟨kS, qS, zS⟩ := id CS
      have cS0 := qS 0 _ rfl
      have cS1 := qS 1 _ rfl
      have cS2 := qS 2 _ rfl
      have cS3 := qS 3 _ rfl
      have cS4 := qS 4 _ rfl
      have cS5 := qS 5 _ rfl
      clear qS zS
      obtain ⟨kG, qG, zG⟩ := id CG
      have cG0 := qG 0 _ rfl
      have cG1 := qG 1 _ rfl
      have cG2 := qG 2 _ rfl
      clear qG zG
      go_wp2_with fail
      refine (KY.out _).mono ?_
      rintro e' w7 ⟨rfl, hb⟩
      replace B := B.trans (hb.mono (Nat.le_of_lt CA.1))
      replace CA := CA.below hb
      replace CF := CF.below hb
      replace CS := CS.below hb
      replace CG := CG.below hb
      clear hb
      clear kA cA0 cA1 cA2 cA3 cA4 cA5 cA6
      clear kF cF0 cF1 cF2 cF3
      clear kS cS0 cS1 cS2 cS3 cS4 cS5
      clear kG cG0 cG1 cG2
      obtain ⟨kA, qA, zA⟩ := id CA
      have cA0 := qA 0 _ rfl
      have cA1 := qA 1 _ rfl
      have cA2 := qA 2 _ rfl
      have cA3 := qA 3 _ rfl
      have cA4 := qA 4 _ rfl
      have cA5 := qA 5 _ rfl
      have cA6 := qA 6 _ rfl
      clear qA zA
      obtain ⟨kF, qF, zF⟩ := id CF
      have cF0 := qF 0 _ rfl
      have cF1 := qF 1 _ rfl
      have cF2 := qF 2 _ rfl
      have cF3 := qF 3 _ rfl
      clear qF zF
      obtain ⟨kS, qS, zS⟩ := id CS
      have cS0 := qS 0 _ rfl
      have cS1 := qS 1 _ rfl
      have cS2 := qS 2 _ rfl
      have cS3 := qS 3 _ rfl
      have cS4 := qS 4 _ rfl
      have cS5 := qS 5 _ rfl
      clear qS zS
      obtain ⟨kG, qG, zG⟩ := id CG
      have cG0 := qG 0 _ rfl
      have cG1 := qG 1 _ rfl
      have cG2 := qG 2 _ rfl
      clear qG zG
      go_wp2_with fail
      clear kA cA0 cA1 cA2 cA3 cA4 cA5 cA6
      clear kF cF0 cF1 cF2 cF3
      clear kS cS0 cS1 cS2 cS3 cS4 cS5
      clear kG cG0 cG1 cG2
      have CD := Ce.made (w := w7) (l := [.int .u64 k.a, .int .u64 k.b]) (T := 30) (g := w7.heap.size) rfl
      replace B := B.alloc (Nat.le_of_lt CA.1) (.cells #[.int .u64 k.a, .int .u64 k.b] 30)
      replace CA := CA.alloc (.cells #[.int .u64 k.a, .int .u64 k.b] 30)
      replace CF := CF.alloc (.cells #[.int .u64 k.a, .int .u64 k.b] 30)
      replace CS := CS.alloc (.cells #[.int .u64 k.a, .int .u64 k.b] 30)
      replace CG := CG.alloc (.cells #[.int .u64 k.a, .int .u64 k.b] 30)
      generalize w7.alloc (.cells #[.int .u64 k.a, .int .u64 k.b] 30) = w8 at *
      generalize w7.heap.size = D at *
      obtain ⟨kA, qA, zA⟩ := id CA
      have cA0 := qA 0 _ rfl
      have cA1 := qA 1 _ rfl
      have cA2 := qA 2 _ rfl
      have cA3 := qA 3 _ rfl
      have cA4 := qA 4 _ rfl
      have cA5 := qA 5 _ rfl
      have cA6 := qA 6 _ rfl
      clear qA zA
      obtain ⟨kF, qF, zF⟩ := id CF
      have cF0 := qF 0 _ rfl
      have cF1 := qF 1 _ rfl
      have cF2 := qF 2 _ rfl
      have cF3 := qF 3 _ rfl
      clear qF zF
      obtain ⟨kS, qS, zS⟩ := id CS
      have cS0 := qS 0 _ rfl
      have cS1 := qS 1 _ rfl
      have cS2 := qS 2 _ rfl
      have cS3 := qS 3 _ rfl
      have cS4 := qS 4 _ rfl
      have cS5 := qS 5 _ rfl
      clear qS zS
      obtain ⟨kG, qG, zG⟩ := id CG
      have cG0 := qG 0 _ rfl
      have cG1 := qG 1 _ rfl
      have cG2 := qG 2 _ rfl
      clear qG zG
      obtain ⟨kD, qD, zD⟩ := id CD
      have cD0 := qD 0 _ rfl
      have cD1 := qD 1 _ rfl
      clear qD zD
      go_region_held3 (fun w' => w'.cell? ⟨F, 0, none⟩ = some (.int .i64 f.a) ∧ w'.cell? ⟨F, 1, none⟩ = some (.int .i64 f.p) ∧ w'.cell? ⟨F, 2, none⟩ = some (.int .i64 f.ta) ∧ w'.cell? ⟨F, 3, none⟩ = some (.int .i64 f.tp) ∧ w'.cell? ⟨S, 0, none⟩ = some (.int .u64 s1) ∧ w'.cell? ⟨S, 1, none⟩ = some (.int .u64 2) ∧ w'.cell? ⟨S, 2, none⟩ = some (.int .u64 s2) ∧ w'.cell? ⟨S, 3, none⟩ = some (.int .u64 6) ∧ w'.cell? ⟨S, 4, none⟩ = some (.int .u64 0) ∧ w'.cell? ⟨S, 5, none⟩ = some (.int .u64 s2) ∧ w'.cell? ⟨G, 0, none⟩ = some (.int .i64 e) ∧ w'.cell? ⟨G, 1, none⟩ = some (.int .i64 m) ∧ w'.cell? ⟨G, 2, none⟩ = some (.int .i64 t) ∧ w'.cell? ⟨D, 0, none⟩ = some (.int .u64 k.a) ∧ w'.cell? ⟨D, 1, none⟩ = some (.int .u64 k.b) ∧ F < w'.heap.size ∧ S < w'.heap.size ∧ G < w'.heap.size ∧ D < w'.heap.size ∧ A < w'.heap.size ∧ Below A w w')
       (first
        | (go_split_ands; refine ⟨?_, ?_, ?_, ?_, ?_, ?_, ?_, ?_, ?_, ?_, ?_, ?_, ?_, ?_, ?_, ?_, ?_, ?_, ?_, ?_, ?_⟩; exact (hb5.cell (p := ⟨F, 0, none⟩) (by assumption)).trans (by assumption); exact (hb5.cell (p := ⟨F, 1, none⟩) (by assumption)).trans (by assumption); exact (hb5.cell (p := ⟨F, 2, none⟩) (by assumption)).trans (by assumption); exact (hb5.cell (p := ⟨F, 3, none⟩) (by assumption)).trans (by assumption); exact (hb5.cell (p := ⟨S, 0, none⟩) (by assumption)).trans (by assumption); exact (hb5.cell (p := ⟨S, 1, none⟩) (by assumption)).trans (by assumption); exact (hb5.cell (p := ⟨S, 2, none⟩) (by assumption)).trans (by assumption); exact (hb5.cell (p := ⟨S, 3, none⟩) (by assumption)).trans (by assumption); exact (hb5.cell (p := ⟨S, 4, none⟩) (by assumption)).trans (by assumption); exact (hb5.cell (p := ⟨S, 5, none⟩) (by assumption)).trans (by assumption); exact (hb5.cell (p := ⟨G, 0, none⟩) (by assumption)).trans (by assumption); exact (hb5.cell (p := ⟨G, 1, none⟩) (by assumption)).trans (by assumption); exact (hb5.cell (p := ⟨G, 2, none⟩) (by assumption)).trans (by assumption); exact (hb5.cell (p := ⟨D, 0, none⟩) (by assumption)).trans (by assumption); exact (hb5.cell (p := ⟨D, 1, none⟩) (by assumption)).trans (by assumption); exact Nat.lt_of_lt_of_le (by assumption) hb5.size; exact Nat.lt_of_lt_of_le (by assumption) hb5.size; exact Nat.lt_of_lt_of_le (by assumption) hb5.size; exact Nat.lt_of_lt_of_le (by assumption) hb5.size; exact Nat.lt_of_lt_of_le (by assumption) hb5.size; exact Below.trans (by assumption) (hb5.mono (by first | exact Nat.le_of_lt (by assumption) | exact Below.size (by assumption))))
        | (refine ⟨?_, ?_, ?_, ?_, ?_, ?_, ?_, ?_, ?_, ?_, ?_, ?_, ?_, ?_, ?_, ?_, ?_, ?_, ?_, ?_, ?_⟩; assumption; assumption; assumption; assumption; assumption; assumption; assumption; assumption; assumption; assumption; assumption; assumption; assumption; assumption; assumption; assumption; assumption; assumption; assumption; assumption; exact Below.drew (by assumption))
        | (go_split_ands; refine ⟨?_, ?_, ?_, ?_, ?_, ?_, ?_, ?_, ?_, ?_, ?_, ?_, ?_, ?_, ?_, ?_, ?_, ?_, ?_, ?_, ?_⟩; exact (World.cell?_alloc_lt _ _ ⟨F, 0, none⟩ (by assumption)).trans (by assumption); exact (World.cell?_alloc_lt _ _ ⟨F, 1, none⟩ (by assumption)).trans (by assumption); exact (World.cell?_alloc_lt _ _ ⟨F, 2, none⟩ (by assumption)).trans (by assumption); exact (World.cell?_alloc_lt _ _ ⟨F, 3, none⟩ (by assumption)).trans (by assumption); exact (World.cell?_alloc_lt _ _ ⟨S, 0, none⟩ (by assumption)).trans (by assumption); exact (World.cell?_alloc_lt _ _ ⟨S, 1, none⟩ (by assumption)).trans (by assumption); exact (World.cell?_alloc_lt _ _ ⟨S, 2, none⟩ (by assumption)).trans (by assumption); exact (World.cell?_alloc_lt _ _ ⟨S, 3, none⟩ (by assumption)).trans (by assumption); exact (World.cell?_alloc_lt _ _ ⟨S, 4, none⟩ (by assumption)).trans (by assumption); exact (World.cell?_alloc_lt _ _ ⟨S, 5, none⟩ (by assumption)).trans (by assumption); exact (World.cell?_alloc_lt _ _ ⟨G, 0, none⟩ (by assumption)).trans (by assumption); exact (World.cell?_alloc_lt _ _ ⟨G, 1, none⟩ (by assumption)).trans (by assumption); exact (World.cell?_alloc_lt _ _ ⟨G, 2, none⟩ (by assumption)).trans (by assumption); exact (World.cell?_alloc_lt _ _ ⟨D, 0, none⟩ (by assumption)).trans (by assumption); exact (World.cell?_alloc_lt _ _ ⟨D, 1, none⟩ (by assumption)).trans (by assumption); (simp; omega); (simp; omega); (simp; omega); (simp; omega); (simp; omega); exact Below.alloc (by assumption) (by first | exact Nat.le_of_lt (by assumption) | exact Below.size (by assumption)) _)
        | (go_split_ands; refine ⟨?_, ?_, ?_, ?_, ?_, ?_, ?_, ?_, ?_, ?_, ?_, ?_, ?_, ?_, ?_, ?_, ?_, ?_, ?_, ?_, ?_⟩; exact (World.cell?_alloc_lt _ _ ⟨F, 0, none⟩ (by assumption)).trans (by assumption); exact (World.cell?_alloc_lt _ _ ⟨F, 1, none⟩ (by assumption)).trans (by assumption); exact (World.cell?_alloc_lt _ _ ⟨F, 2, none⟩ (by assumption)).trans (by assumption); exact (World.cell?_alloc_lt _ _ ⟨F, 3, none⟩ (by assumption)).trans (by assumption); exact (World.cell?_alloc_lt _ _ ⟨S, 0, none⟩ (by assumption)).trans (by assumption); exact (World.cell?_alloc_lt _ _ ⟨S, 1, none⟩ (by assumption)).trans (by assumption); exact (World.cell?_alloc_lt _ _ ⟨S, 2, none⟩ (by assumption)).trans (by assumption); exact (World.cell?_alloc_lt _ _ ⟨S, 3, none⟩ (by assumption)).trans (by assumption); exact (World.cell?_alloc_lt _ _ ⟨S, 4, none⟩ (by assumption)).trans (by assumption); exact (World.cell?_alloc_lt _ _ ⟨S, 5, none⟩ (by assumption)).trans (by assumption); exact (World.cell?_alloc_lt _ _ ⟨G, 0, none⟩ (by assumption)).trans (by assumption); exact (World.cell?_alloc_lt _ _ ⟨G, 1, none⟩ (by assumption)).trans (by assumption); exact (World.cell?_alloc_lt _ _ ⟨G, 2, none⟩ (by assumption)).trans (by assumption); exact (World.cell?_alloc_lt _ _ ⟨D, 0, none⟩ (by assumption)).trans (by assumption); exact (World.cell?_alloc_lt _ _ ⟨D, 1, none⟩ (by assumption)).trans (by assumption); exact Nat.lt_of_lt_of_le (by assumption) (Below.drew (Below.alloc (Below.refl _ _) (Nat.le_refl _) _)).size; exact Nat.lt_of_lt_of_le (by assumption) (Below.drew (Below.alloc (Below.refl _ _) (Nat.le_refl _) _)).size; exact Nat.lt_of_lt_of_le (by assumption) (Below.drew (Below.alloc (Below.refl _ _) (Nat.le_refl _) _)).size; exact Nat.lt_of_lt_of_le (by assumption) (Below.drew (Below.alloc (Below.refl _ _) (Nat.le_refl _) _)).size; exact Nat.lt_of_lt_of_le (by assumption) (Below.drew (Below.alloc (Below.refl _ _) (Nat.le_refl _) _)).size; exact Below.drew (Below.alloc (by assumption) (Below.size (by assumption)) _))
        | (go_split_ands; refine ⟨?_, ?_, ?_, ?_, ?_, ?_, ?_, ?_, ?_, ?_, ?_, ?_, ?_, ?_, ?_, ?_, ?_, ?_, ?_, ?_, ?_⟩; assumption; assumption; assumption; assumption; assumption; assumption; assumption; assumption; assumption; assumption; assumption; assumption; assumption; assumption; assumption; assumption; assumption; assumption; assumption; assumption; assumption)
        | go_keep)
       ((first
         | (go_at_call 126
            go_split_ands
            with_reducible refine (MK2.out _).mono ?_
            rintro e w5 ⟨rfl, hb5⟩)
         | (go_at_call 125
            go_split_ands
            with_reducible refine (cutI s2 6 _ _ ?_).mono ?_
            ·decide
            rintro e w5 ⟨rfl, hb5⟩)))
      go_split_ands
      go_wp2_with fail
      go_region_held3 (fun w' => w'.cell? ⟨F, 0, none⟩ = some (.int .i64 f.a) ∧ w'.cell? ⟨F, 1, none⟩ = some (.int .i64 f.p) ∧ w'.cell? ⟨F, 2, none⟩ = some (.int .i64 f.ta) ∧ w'.cell? ⟨F, 3, none⟩ = some (.int .i64 f.tp) ∧ w'.cell? ⟨S, 0, none⟩ = some (.int .u64 s1) ∧ w'.cell? ⟨S, 1, none⟩ = some (.int .u64 2) ∧ w'.cell? ⟨S, 2, none⟩ = some (.int .u64 s2) ∧ w'.cell? ⟨S, 3, none⟩ = some (.int .u64 6) ∧ w'.cell? ⟨S, 4, none⟩ = some (.int .u64 0) ∧ w'.cell? ⟨S, 5, none⟩ = some (.int .u64 s2) ∧ w'.cell? ⟨G, 0, none⟩ = some (.int .i64 e) ∧ w'.cell? ⟨G, 1, none⟩ = some (.int .i64 m) ∧ w'.cell? ⟨G, 2, none⟩ = some (.int .i64 t) ∧ w'.cell? ⟨D, 0, none⟩ = some (.int .u64 k.a) ∧ w'.cell? ⟨D, 1, none⟩ = some (.int .u64 k.b) ∧ F < w'.heap.size ∧ S < w'.heap.size ∧ G < w'.heap.size ∧ D < w'.heap.size ∧ A < w'.heap.size ∧ Below A w w')
       (first
        | (go_split_ands; refine ⟨?_, ?_, ?_, ?_, ?_, ?_, ?_, ?_, ?_, ?_, ?_, ?_, ?_, ?_, ?_, ?_, ?_, ?_, ?_, ?_, ?_⟩; exact (hb5.cell (p := ⟨F, 0, none⟩) (by assumption)).trans (by assumption); exact (hb5.cell (p := ⟨F, 1, none⟩) (by assumption)).trans (by assumption); exact (hb5.cell (p := ⟨F, 2, none⟩) (by assumption)).trans (by assumption); exact (hb5.cell (p := ⟨F, 3, none⟩) (by assumption)).trans (by assumption); exact (hb5.cell (p := ⟨S, 0, none⟩) (by assumption)).trans (by assumption); exact (hb5.cell (p := ⟨S, 1, none⟩) (by assumption)).trans (by assumption); exact (hb5.cell (p := ⟨S, 2, none⟩) (by assumption)).trans (by assumption); exact (hb5.cell (p := ⟨S, 3, none⟩) (by assumption)).trans (by assumption); exact (hb5.cell (p := ⟨S, 4, none⟩) (by assumption)).trans (by assumption); exact (hb5.cell (p := ⟨S, 5, none⟩) (by assumption)).trans (by assumption); exact (hb5.cell (p := ⟨G, 0, none⟩) (by assumption)).trans (by assumption); exact (hb5.cell (p := ⟨G, 1, none⟩) (by assumption)).trans (by assumption); exact (hb5.cell (p := ⟨G, 2, none⟩) (by assumption)).trans (by assumption); exact (hb5.cell (p := ⟨D, 0, none⟩) (by assumption)).trans (by assumption); exact (hb5.cell (p := ⟨D, 1, none⟩) (by assumption)).trans (by assumption); exact Nat.lt_of_lt_of_le (by assumption) hb5.size; exact Nat.lt_of_lt_of_le (by assumption) hb5.size; exact Nat.lt_of_lt_of_le (by assumption) hb5.size; exact Nat.lt_of_lt_of_le (by assumption) hb5.size; exact Nat.lt_of_lt_of_le (by assumption) hb5.size; exact Below.trans (by assumption) (hb5.mono (by first | exact Nat.le_of_lt (by assumption) | exact Below.size (by assumption))))
        | (refine ⟨?_, ?_, ?_, ?_, ?_, ?_, ?_, ?_, ?_, ?_, ?_, ?_, ?_, ?_, ?_, ?_, ?_, ?_, ?_, ?_, ?_⟩; assumption; assumption; assumption; assumption; assumption; assumption; assumption; assumption; assumption; assumption; assumption; assumption; assumption; assumption; assumption; assumption; assumption; assumption; assumption; assumption; exact Below.drew (by assumption))
        | (go_split_ands; refine ⟨?_, ?_, ?_, ?_, ?_, ?_, ?_, ?_, ?_, ?_, ?_, ?_, ?_, ?_, ?_, ?_, ?_, ?_, ?_, ?_, ?_⟩; exact (World.cell?_alloc_lt _ _ ⟨F, 0, none⟩ (by assumption)).trans (by assumption); exact (World.cell?_alloc_lt _ _ ⟨F, 1, none⟩ (by assumption)).trans (by assumption); exact (World.cell?_alloc_lt _ _ ⟨F, 2, none⟩ (by assumption)).trans (by assumption); exact (World.cell?_alloc_lt _ _ ⟨F, 3, none⟩ (by assumption)).trans (by assumption); exact (World.cell?_alloc_lt _ _ ⟨S, 0, none⟩ (by assumption)).trans (by assumption); exact (World.cell?_alloc_lt _ _ ⟨S, 1, none⟩ (by assumption)).trans (by assumption); exact (World.cell?_alloc_lt _ _ ⟨S, 2, none⟩ (by assumption)).trans (by assumption); exact (World.cell?_alloc_lt _ _ ⟨S, 3, none⟩ (by assumption)).trans (by assumption); exact (World.cell?_alloc_lt _ _ ⟨S, 4, none⟩ (by assumption)).trans (by assumption); exact (World.cell?_alloc_lt _ _ ⟨S, 5, none⟩ (by assumption)).trans (by assumption); exact (World.cell?_alloc_lt _ _ ⟨G, 0, none⟩ (by assumption)).trans (by assumption); exact (World.cell?_alloc_lt _ _ ⟨G, 1, none⟩ (by assumption)).trans (by assumption); exact (World.cell?_alloc_lt _ _ ⟨G, 2, none⟩ (by assumption)).trans (by assumption); exact (World.cell?_alloc_lt _ _ ⟨D, 0, none⟩ (by assumption)).trans (by assumption); exact (World.cell?_alloc_lt _ _ ⟨D, 1, none⟩ (by assumption)).trans (by assumption); (simp; omega); (simp; omega); (simp; omega); (simp; omega); (simp; omega); exact Below.alloc (by assumption) (by first | exact Nat.le_of_lt (by assumption) | exact Below.size (by assumption)) _)
        | (go_split_ands; refine ⟨?_, ?_, ?_, ?_, ?_, ?_, ?_, ?_, ?_, ?_, ?_, ?_, ?_, ?_, ?_, ?_, ?_, ?_, ?_, ?_, ?_⟩; exact (World.cell?_alloc_lt _ _ ⟨F, 0, none⟩ (by assumption)).trans (by assumption); exact (World.cell?_alloc_lt _ _ ⟨F, 1, none⟩ (by assumption)).trans (by assumption); exact (World.cell?_alloc_lt _ _ ⟨F, 2, none⟩ (by assumption)).trans (by assumption); exact (World.cell?_alloc_lt _ _ ⟨F, 3, none⟩ (by assumption)).trans (by assumption); exact (World.cell?_alloc_lt _ _ ⟨S, 0, none⟩ (by assumption)).trans (by assumption); exact (World.cell?_alloc_lt _ _ ⟨S, 1, none⟩ (by assumption)).trans (by assumption); exact (World.cell?_alloc_lt _ _ ⟨S, 2, none⟩ (by assumption)).trans (by assumption); exact (World.cell?_alloc_lt _ _ ⟨S, 3, none⟩ (by assumption)).trans (by assumption); exact (World.cell?_alloc_lt _ _ ⟨S, 4, none⟩ (by assumption)).trans (by assumption); exact (World.cell?_alloc_lt _ _ ⟨S, 5, none⟩ (by assumption)).trans (by assumption); exact (World.cell?_alloc_lt _ _ ⟨G, 0, none⟩ (by assumption)).trans (by assumption); exact (World.cell?_alloc_lt _ _ ⟨G, 1, none⟩ (by assumption)).trans (by assumption); exact (World.cell?_alloc_lt _ _ ⟨G, 2, none⟩ (by assumption)).trans (by assumption); exact (World.cell?_alloc_lt _ _ ⟨D, 0, none⟩ (by assumption)).trans (by assumption); exact (World.cell?_alloc_lt _ _ ⟨D, 1, none⟩ (by assumption)).trans (by assumption); exact Nat.lt_of_lt_of_le (by assumption) (Below.drew (Below.alloc (Below.refl _ _) (Nat.le_refl _) _)).size; exact Nat.lt_of_lt_of_le (by assumption) (Below.drew (Below.alloc (Below.refl _ _) (Nat.le_refl _) _)).size; exact Nat.lt_of_lt_of_le (by assumption) (Below.drew (Below.alloc (Below.refl _ _) (Nat.le_refl _) _)).size; exact Nat.lt_of_lt_of_le (by assumption) (Below.drew (Below.alloc (Below.refl _ _) (Nat.le_refl _) _)).size; exact Nat.lt_of_lt_of_le (by assumption) (Below.drew (Below.alloc (Below.refl _ _) (Nat.le_refl _) _)).size; exact Below.drew (Below.alloc (by assumption) (Below.size (by assumption)) _))
        | (go_split_ands; refine ⟨?_, ?_, ?_, ?_, ?_, ?_, ?_, ?_, ?_, ?_, ?_, ?_, ?_, ?_, ?_, ?_, ?_, ?_, ?_, ?_, ?_⟩; assumption; assumption; assumption; assumption; assumption; assumption; assumption; assumption; assumption; assumption; assumption; assumption; assumption; assumption; assumption; assumption; assumption; assumption; assumption; assumption; assumption)
        | go_keep)
       ((first
         | (go_at_call 98
            go_split_ands
            with_reducible refine (MD2.out _).mono ?_
            rintro e w5 ⟨rfl, hb5⟩)))
      go_split_ands
      go_wp2_with fail
      refine bodyPost_ret (by simp [results, Tryz.results87, go_sem]) rfl ⟨rfl, ?_⟩
      first | assumption | (rw [hK]; assumption)
theorem read1 (r : Rg) (f : Fl) (c : Int) (hf : f.I) (hr : Ep r.e) (w : World) :
 Calls Tryz.prog 87 #[rgV r, .int .i64 1, flV f, .int .i64 c] w fun e' w' => e' = .returned (rdO (readC 4096 r 1 f c)) ∧ Below w.heap.size w w' :=
 have hkI : I64 1 := ⟨by omega, by omega⟩
 read_k 1 4096 18 12 1048576 (.inl ⟨rfl, rfl⟩) (.inl rfl) shV1 rfl hkI r f c hf hr (apart1 c) (fun k x e hx he w => made1 k 1 f x e hf hkI hx he w) w
theorem read2 (r : Rg) (f : Fl) (c : Int) (hf : f.I) (hr : Ep r.e) (w : World) :
 Calls Tryz.prog 87 #[rgV r, .int .i64 2, flV f, .int .i64 c] w fun e' w' => e' = .returned (rdO (readC 256 r 2 f c)) ∧ Below w.heap.size w w' :=
 have hkI : I64 2 := ⟨by omega, by omega⟩
 read_k 2 256 14 8 65536 (.inr ⟨rfl, rfl⟩) (.inr rfl) shV2 rfl hkI r f c hf hr (apart2 c) (fun k x e hx he w => made2 k 2 f x e hf hkI hx he w) w
end Go.Proofs.YtlfionfnpieoiaaGreat
namespace Go.Proofs.YtlfionfnpieoiaaGreat
set_option linter.unusedVariables false
set_option linter.unusedSimpArgs false
open Go.RowKit Go.ChangeShapes Go.WideShapes Go.ChangeAt
end Go.Proofs.YtlfionfnpieoiaaGreat
namespace Go.Proofs.YtlfionfnpieoiaaGreat
set_option linter.unusedVariables false
set_option linter.unusedSimpArgs false
open Go.RowKit Go.ChangeShapes Go.WideShapes Go.ChangeAt
def U32 (x : Int) : Prop := 0 ≤ x ∧ x < 4294967296
theorem uand32 (x : Int) (j : Nat) (hj : j ≤ 31) (hx : U32 x) : bits .and .u32 x (2 ^ j - 1) = x % 2 ^ j := by
 obtain ⟨n, rfl⟩ := Int.eq_ofNat_of_zero_le hx.1
 have hn : n < 2 ^ 32 := by have := hx.2; omega
 have hp : (2 : Nat) ^ j ≤ 2 ^ 31 := Nat.pow_le_pow_right (by omega) hj
 have h0 := Nat.two_pow_pos j
 have h3 : (((2 ^ j : Nat)) : Int) = 2 ^ j := by simp
 have e : ((2 : Int) ^ j - 1) = ((2 ^ j - 1 : Nat) : Int) := by omega
 rw [e]
 show IntKind.u32.wrap ((BitVec.ofInt 32 (n : Int) &&& BitVec.ofInt 32 ((2 ^ j - 1 : Nat) : Int)).toNat : Int) = _
 rw [BitVec.toNat_and, BitVec.ofInt_natCast, BitVec.ofInt_natCast, BitVec.toNat_ofNat, BitVec.toNat_ofNat, Nat.mod_eq_of_lt hn, Nat.mod_eq_of_lt (by omega), Nat.and_two_pow_sub_one_eq_mod, IntKind.wrap_u32]
 have h2 : n % 2 ^ j < 2 ^ j := Nat.mod_lt _ h0
 rw [← h3]
 omega
theorem cutU (a wd v : Int) (w : World) (hv : U32 v) (hw : wd = 12 ∨ wd = 20) :
 Calls Tryz.prog 131 #[.agg #[.int .u64 a, .int .u64 wd], .int .u32 v] w fun e w' => e = .returned (.int .u32 (v % 2 ^ wd.toNat)) ∧ Below w.heap.size w w' := by
 have h1 : bits .and .u32 v 4095 = v % 4096 := uand32 v 12 (by omega) hv
 have h2 : bits .and .u32 v 1048575 = v % 1048576 := uand32 v 20 (by omega) hv
 rcases hw with rfl | rfl
 all_goals
  go_enter Tryz.func131, Tryz.ntmps131
  go_wp2_with fail
  go_ret
  exact ⟨rfl, (Below.refl _ _).alloc (Nat.le_refl _) _⟩
theorem ofU (a wd v : Int) (w : World) (hv : U32 v) (hf : (a = 20 ∧ wd = 12) ∨ (a = 0 ∧ wd = 20) ∨ (a = 8 ∧ wd = 12)) :
 Calls Tryz.prog 103 #[.agg #[.int .u64 a, .int .u64 wd], .int .u32 v] w fun e w' => e = .returned (.int .u32 (v / 2 ^ a.toNat % 2 ^ wd.toNat)) ∧ Below w.heap.size w w' := by
 have hv3 : U32 (v / 2 ^ a.toNat) := by
  obtain ⟨h1, h2⟩ := hv
  unfold U32
  rcases hf with ⟨rfl, rfl⟩ | ⟨rfl, rfl⟩ | ⟨rfl, rfl⟩
  ·show 0 ≤ v / 1048576 ∧ v / 1048576 < 4294967296
   omega
  ·show 0 ≤ v / 1 ∧ v / 1 < 4294967296
   omega
  ·show 0 ≤ v / 256 ∧ v / 256 < 4294967296
   omega
 have hw : wd = 12 ∨ wd = 20 := by omega
 have ha : 0 ≤ a := by omega
 have ha' : a ≤ 32 := by omega
 have hvU := hv
 obtain ⟨hv1, hv2⟩ := hv
 go_enter Tryz.func103, Tryz.ntmps103
 go_wp2_with fail
 refine (cutU a wd _ _ hv3 hw).mono ?_
 rintro e w' ⟨rfl, hb⟩
 have hb0 := ((Below.refl w.heap.size w).alloc (Nat.le_refl _) _).trans (hb.mono (by simp))
 go_wp2_with fail
 go_ret
 exact ⟨rfl, hb0⟩
theorem stampShape_any (w : World) : Calls Tryz.prog 100 #[] w fun e w' => e = .returned (.agg #[.int .u64 20, .int .u64 12, .int .u64 0, .int .u64 20]) ∧ Below w.heap.size w w' := by
 go_enter Tryz.func100, Tryz.ntmps100
 go_wp2_with fail
 refine bodyPost_ret (by simp [results, Tryz.results100, go_sem]) rfl ⟨rfl, ?_⟩
 repeat' (first | with_reducible exact Below.refl _ _ | with_reducible refine Below.alloc ?_ ?_ _ | with_reducible refine Below.setCell ?_ ?_ _ | (simp; done) | (simp; omega))
theorem get_any (v : Int) (hv : U32 v) (w : World) : Calls Tryz.prog 121 #[.int .u32 v] w fun e w' => e = .returned (.tuple #[.int .i64 (v / 1048576), .int .i64 (v % 1048576)]) ∧ Below w.heap.size w w' := by
 have q1 : Hid (v / 1048576 % 4096 = v / 1048576) := by obtain ⟨h1, h2⟩ := hv; unfold Hid; omega
 have r1 : Hid (IntKind.i64.wrap (v / 1048576) = v / 1048576) := by obtain ⟨h1, h2⟩ := hv; exact IntWalk.i64_in _ (by omega)
 have r2 : Hid (IntKind.i64.wrap (v % 1048576) = v % 1048576) := IntWalk.i64_in _ (by omega)
 have hvU := hv
 obtain ⟨hv1, hv2⟩ := hv
 go_enter Tryz.func121, Tryz.ntmps121
 go_wp2_with fail
 refine (stampShape_any _).mono ?_
 rintro e' w2 ⟨rfl, hb⟩
 have B := hb
 clear hb
 have hws : w.heap.size ≤ w2.heap.size := B.size
 go_wp2_with fail
 have CS := Ce.made (w := w2) (l := [.int .u64 20, .int .u64 12, .int .u64 0, .int .u64 20]) (T := 186) (g := w2.heap.size) rfl
 replace B := B.alloc hws (.cells #[.int .u64 20, .int .u64 12, .int .u64 0, .int .u64 20] 186)
 generalize w2.alloc (.cells #[.int .u64 20, .int .u64 12, .int .u64 0, .int .u64 20] 186) = w3 at *
 generalize hS : w2.heap.size = S at *
 obtain ⟨N0, hN0⟩ : ∃ N0, N0 = w.heap.size := ⟨_, rfl⟩
 rw [← hN0] at B hws
 obtain ⟨kS, qS, zS⟩ := id CS
 have cS0 := qS 0 _ rfl
 have cS1 := qS 1 _ rfl
 have cS2 := qS 2 _ rfl
 have cS3 := qS 3 _ rfl
 clear qS zS
 clear CS
 go_region_held3 (fun w' => w'.cell? ⟨S, 0, none⟩ = some (.int .u64 20) ∧ w'.cell? ⟨S, 1, none⟩ = some (.int .u64 12) ∧ w'.cell? ⟨S, 2, none⟩ = some (.int .u64 0) ∧ w'.cell? ⟨S, 3, none⟩ = some (.int .u64 20) ∧ S < w'.heap.size ∧ Below N0 w w')
  (first
   | (go_split_ands; refine ⟨?_, ?_, ?_, ?_, ?_, ?_⟩; exact (hb5.cell (p := ⟨S, 0, none⟩) (by assumption)).trans (by assumption); exact (hb5.cell (p := ⟨S, 1, none⟩) (by assumption)).trans (by assumption); exact (hb5.cell (p := ⟨S, 2, none⟩) (by assumption)).trans (by assumption); exact (hb5.cell (p := ⟨S, 3, none⟩) (by assumption)).trans (by assumption); exact Nat.lt_of_lt_of_le (by assumption) hb5.size; exact Below.trans (by assumption) (hb5.mono (by first | exact Nat.le_of_lt (by assumption) | (have := Below.size (by assumption); omega) | omega)))
   | (refine ⟨?_, ?_, ?_, ?_, ?_, ?_⟩; assumption; assumption; assumption; assumption; assumption; exact Below.drew (by assumption))
   | (go_split_ands; refine ⟨?_, ?_, ?_, ?_, ?_, ?_⟩; exact (World.cell?_alloc_lt _ _ ⟨S, 0, none⟩ (by assumption)).trans (by assumption); exact (World.cell?_alloc_lt _ _ ⟨S, 1, none⟩ (by assumption)).trans (by assumption); exact (World.cell?_alloc_lt _ _ ⟨S, 2, none⟩ (by assumption)).trans (by assumption); exact (World.cell?_alloc_lt _ _ ⟨S, 3, none⟩ (by assumption)).trans (by assumption); (simp; omega); exact Below.alloc (by assumption) (by first | exact Nat.le_of_lt (by assumption) | (have := Below.size (by assumption); omega) | omega) _)
   | (go_split_ands; refine ⟨?_, ?_, ?_, ?_, ?_, ?_⟩; exact (World.cell?_alloc_lt _ _ ⟨S, 0, none⟩ (by assumption)).trans (by assumption); exact (World.cell?_alloc_lt _ _ ⟨S, 1, none⟩ (by assumption)).trans (by assumption); exact (World.cell?_alloc_lt _ _ ⟨S, 2, none⟩ (by assumption)).trans (by assumption); exact (World.cell?_alloc_lt _ _ ⟨S, 3, none⟩ (by assumption)).trans (by assumption); exact Nat.lt_of_lt_of_le (by assumption) (Below.drew (Below.alloc (Below.refl _ _) (Nat.le_refl _) _)).size; exact Below.drew (Below.alloc (by assumption) (Below.size (by assumption)) _))
   | (go_split_ands; refine ⟨?_, ?_, ?_, ?_, ?_, ?_⟩; assumption; assumption; assumption; assumption; assumption; assumption)
   | go_keep)
  ((first
    | (go_at_call 103
       go_split_ands
       with_reducible refine (ofU 20 12 v _ hvU ?_).mono ?_
       ·decide
       rintro e w5 ⟨rfl, hb5⟩)
    | (go_at_call 103
       go_split_ands
       with_reducible refine (ofU 0 20 v _ hvU ?_).mono ?_
       ·decide
       rintro e w5 ⟨rfl, hb5⟩)))
 all_goals
  go_split_ands
  go_wp2_with fail
  refine bodyPost_ret (v := .tuple #[.int .i64 (v / 1048576), .int .i64 (v % 1048576)]) (by simp [results, Tryz.results121, go_sem, q1.out, r1.out, r2.out]) rfl ⟨rfl, ?_⟩
  rw [← hN0]
  assumption
end Go.Proofs.YtlfionfnpieoiaaGreat
namespace Go.Proofs.YtlfionfnpieoiaaGreat
set_option linter.unusedVariables false
set_option linter.unusedSimpArgs false
open Go.RowKit Go.ChangeShapes Go.WideShapes Go.ChangeAt
/-- Of a stream, of a gram. -/
def kdB (b : Bool) : Int := if b then 1 else 2
def tB (b : Bool) : Int := if b then 4096 else 256
theorem read_b (b : Bool) (r : Rg) (f : Fl) (c : Int) (hf : f.I) (hr : Ep r.e) (w : World) :
 Calls Tryz.prog 87 #[rgV r, .int .i64 (kdB b), flV f, .int .i64 c] w fun e' w' => e' = .returned (rdO (readC (tB b) r (kdB b) f c)) ∧ Below w.heap.size w w' := by
 cases b
 ·exact read2 r f c hf hr w
 ·exact read1 r f c hf hr w
end Go.Proofs.YtlfionfnpieoiaaGreat
namespace Go.Proofs.YtlfionfnpieoiaaGreat
set_option linter.unusedVariables false
set_option linter.unusedSimpArgs false
open Go.RowKit Go.ChangeShapes Go.WideShapes Go.ChangeAt
end Go.Proofs.YtlfionfnpieoiaaGreat
namespace Go.Proofs.YtlfionfnpieoiaaGreat
set_option linter.unusedVariables false
open Go.RowKit Go.ChangeShapes Go.WideShapes Go.ChangeAt
def Cr (w : World) (b : Nat) (l : List Value) : Prop := b < w.heap.size ∧ ∀ j v, l[j]? = some v → w.cell? ⟨b, j, none⟩ = some v
theorem Ce.cr {w : World} {b : Nat} {l : List Value} (h : Ce w b l) : Cr w b l := ⟨h.1, h.2.1⟩
theorem Cr.below {w w' : World} {b : Nat} {l : List Value} (h : Cr w b l) (hb : Below w.heap.size w w') : Cr w' b l :=
 ⟨Nat.lt_of_lt_of_le h.1 hb.size, fun j v hj => (hb.cell (p := ⟨b, j, none⟩) h.1).trans (h.2 j v hj)⟩
theorem Cr.alloc {w : World} {b : Nat} {l : List Value} (h : Cr w b l) (o : Obj) : Cr (w.alloc o) b l := h.below ((Below.refl _ _).alloc (Nat.le_refl _) o)
theorem Cr.other {w : World} {b c j : Nat} {l : List Value} {v : Value} (h : Cr w b l) (hne : c ≠ b) : Cr (w.setCell ⟨c, j, none⟩ v) b l :=
 ⟨by simpa using h.1, fun i u hi => by rw [World.cell?_setCell_other _ _ _ _ (fun e => hne (by cases e; rfl))]; exact h.2 i u hi⟩
theorem Ce.set {w : World} {b : Nat} {l : List Value} (h : Ce w b l) (j : Nat) (v : Value) (hj : j < l.length) : Ce (w.setCell ⟨b, j, none⟩ v) b (l.set j v) := by
 refine ⟨by simpa using h.1, fun i u hi => ?_, fun i => by rw [World.frozen?_setCell]; exact h.2.2 i⟩
 by_cases e : i = j
 ·subst e
  rw [List.getElem?_set_self hj] at hi
  injection hi with hi
  subst hi
  exact World.cell?_setCell_same _ _ _ (h.2.1 i _ (List.getElem?_eq_getElem hj))
 ·rw [List.getElem?_set_ne (Ne.symm e)] at hi
  rw [World.cell?_setCell_other _ _ _ _ (fun x => e (by injection x with _ x; exact x.symm))]
  exact h.2.1 i u hi
/-- Seven cells that may be written. -/
def CX (w : World) (b : Nat) : Prop := ∃ x0 x1 x2 x3 x4 x5 x6 : Value, Ce w b [x0, x1, x2, x3, x4, x5, x6]
theorem CX.below {w w' : World} {b : Nat} (h : CX w b) (hb : Below w.heap.size w w') : CX w' b := by
 obtain ⟨_, _, _, _, _, _, _, h⟩ := h
 exact ⟨_, _, _, _, _, _, _, h.below hb⟩
section
variable {P : Program} {Q : Exit → Act → World → Prop} {md : Region.Mode} {S : World → Prop}
/-- Two may come up. -/
theorem twoUp (i j : Nat) {L rest rest' : List Oper} {o o' : Oper} {fuel : Nat} {listed : Array Bool} {a : Act} {w : World} (ho : L.drop i = o :: rest) (ho' : L.drop j = o' :: rest') (hr : Region.ready md L.toArray listed = [i, j])
 (hw : Region.wanted o (yielded L.toArray a.tmps) = true) (hw' : Region.wanted o' (yielded L.toArray a.tmps) = true)
 (h : ∀ K' : Act → World → Prop, Shut (∀ a w, S w → (S w → wpAnyH P md L.toArray Q S fuel (listed.setIfInBounds i true) a w) → K' a w) → Oper.wp P o a w K' Q)
 (h' : ∀ K' : Act → World → Prop, Shut (∀ a w, S w → (S w → wpAnyH P md L.toArray Q S fuel (listed.setIfInBounds j true) a w) → K' a w) → Oper.wp P o' a w K' Q) : wpAnyH P md L.toArray Q S (fuel + 1) listed a w :=
 wpAnyH_ready hr (by simp) (AllReadyH.cons (at_drop ho) (fun K hK => by rw [if_pos hw]; exact h K hK) (AllReadyH.cons (at_drop ho') (fun K hK => by rw [if_pos hw']; exact h' K hK) AllReadyH.nil))
end
end Go.Proofs.YtlfionfnpieoiaaGreat
