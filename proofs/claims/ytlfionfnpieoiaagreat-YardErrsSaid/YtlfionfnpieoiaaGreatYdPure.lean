/- First steps of a yard, by themselves. -/
import Derived.Test.YtlfionfnpieoiaaGreatYdAt
import Derived.BigQuiet
import Derived.Deep.RegionHeld3
import Derived.Deep.Cut
import Derived.IntWalk
namespace Go.Proofs.YtlfionfnpieoiaaGreat
set_option linter.unusedVariables false
set_option linter.unusedSimpArgs false
open Go.RowKit Go.ChangeShapes Go.WideShapes Go.ChangeAt
def z0 : Uy := ⟨0, zPl, false⟩
def wN (p : Pl) (i : Nat) : Nt := ⟨i, 0, p.v, true, false, zEn, p⟩
def aN (p : Pl) (i : Nat) : Nt := ⟨i, 0, p.v, false, true, zEn, zPl⟩
theorem good_mk (g : Nat → Int) (k : Nat) (hk : k ≤ 30) : good (mkP g k) ∧ (mkP g k).v ≤ 30 := by
 have h := mkP_inv g k
 have hv : 0 ≤ (mkP g k).v ∧ (mkP g k).v ≤ k := h.1
 exact ⟨⟨h.mono (by omega), mk_pw g k⟩, by omega⟩
theorem good_k0 : good kp0 := ⟨kpi.mono (by decide), fun i _ => ⟨by show (0 : Int) ≤ 0 ∧ (0 : Int) ≤ 4294967295; decide, by show (0 : Int) ≤ 0 ∧ (0 : Int) ≤ 65535; decide, fun h => absurd rfl h⟩⟩
section
variable {p : Pl} {u : Nat}
theorem send_newH : sendH (newH p u) = newH p u := by
 unfold sendH
 split <;> rfl
theorem notes_newH (hv : 0 ≤ p.v) : ∀ k : Nat, notesK (newH p u) k = (List.range k).map (wN p)
 | 0 => rfl
 | k + 1 => by
   have h1 : ((newH p u).wd k).v < (newH p u).pl.v := by show (-1 : Int) < p.v; omega
   rw [notesK_succ, if_pos h1, notes_newH hv k, List.range_succ, List.map_append]
   rfl
theorem tick_new (hv : 0 ≤ p.v) : tickY (newY p u) = ⟨newH p u, fun _ => z0, (List.range u).map (wN p)⟩ := by
 show (⟨sendH (newH p u), _, [] ++ notesK (sendH (newH p u)) u⟩ : Yd) = _
 rw [send_newH, notes_newH hv]
 rfl
theorem read_w (hv : 0 ≤ p.v) (i : Nat) {x : Uy} (hx : x = z0 ∨ x = ⟨0, p, true⟩) : readU (wN p i) x = ⟨0, p, true⟩ := by
 unfold readU folU
 rcases hx with rfl | rfl
 ·rw [if_pos (show (wN p i).b = z0.b from rfl), if_pos ⟨rfl, by show (-1 : Int) < p.v; omega⟩]
  rfl
 ·rw [if_pos (show (wN p i).b = (⟨0, p, true⟩ : Uy).b from rfl), if_neg (fun h => by have : p.v < p.v := h.2; omega), if_neg (fun h => by cases h.1)]
theorem del_w {y : Yd} {j i : Nat} (hv : 0 ≤ p.v) (hj : y.ns[j]? = some (wN p i)) (hx : y.uf i = z0 ∨ y.uf i = ⟨0, p, true⟩) (k : Bool) : delY y j k = ⟨y.h, setU y.uf i ⟨0, p, true⟩, dropL y.ns j k ++ [aN p i]⟩ := by
 rw [delY_some hj]
 unfold getY
 rw [if_neg (show ¬ (wN p i).ak = true from fun h => by cases h)]
 have e : (wN p i).u.toNat = i := by show ((i : Nat) : Int).toNat = i; omega
 rw [e, read_w hv i hx]
 have : ackU i ⟨0, p, true⟩ = aN p i := rfl
 rw [this]
end
end Go.Proofs.YtlfionfnpieoiaaGreat
