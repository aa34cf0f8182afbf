/- What order is: pure. -/
import Derived.Test.YtljgcffpijjliaaDoorPolRow
import Derived.BigQuiet
import Derived.Deep.RegionHeld3
import Derived.Deep.Cut
namespace Go.Proofs.YtljgcffpijjliaaDoor
set_option linter.unusedVariables false
set_option linter.unusedSimpArgs false
open Go.RowKit Go.ChangeShapes Go.WideShapes Go.ChangeAt

/-- The least free slot. -/
def frS (p : Pl) (i : Nat) : Bool := (p.s i).st == 0
def freeO (p : Pl) : Option Nat := (List.range 64).find? (frS p)
def adE (a q w : Int) : En := ⟨1, 0, a, q, w, zKy⟩
/-- What a wish becomes: entries, or why not. -/
def addR (p : Pl) (a q w : Int) : List En × Int :=
  if chk (adE a q w) ≠ 0 then ([], 14) else bif heldB p a q then ([], 12) else match freeO p with
    | none => ([], 9)
    | some k => ([⟨1, (k : Int), a, q, w, zKy⟩, ⟨2, (k : Int), 0, 0, 0, zKy⟩], 0)
def remR (p : Pl) (a q : Int) : List En × Int := match findO p a q with
  | none => ([], 9)
  | some k => (if (p.s k).st = 2 then [⟨3, (k : Int), 0, 0, 0, zKy⟩, ⟨4, (k : Int), 0, 0, 0, zKy⟩] else [⟨4, (k : Int), 0, 0, 0, zKy⟩], 0)
def goneS (p : Pl) (i : Nat) : Bool := (p.s i).st == 4 && decide ((p.s i).si + 3 ≤ p.r.e + 1)
/-- New keys, and the slots below n that come free. -/
def rotL (p : Pl) (y : Ky) : Nat → List En
  | 0 => [⟨6, 0, 0, 0, 0, y⟩]
  | n + 1 => if goneS p n = true then rotL p y n ++ [⟨5, (n : Int), 0, 0, 0, zKy⟩] else rotL p y n
def mrkL (p : Pl) (s v : Int) : List En :=
  if s < 0 ∨ 64 ≤ s then [] else
  if v = 1 ∧ ((p.s s.toNat).st = 1 ∨ (p.s s.toNat).st = 3) then [⟨2, s, 0, 0, 0, zKy⟩] else
  if v = 2 ∧ (p.s s.toNat).st = 2 then [⟨3, s, 0, 0, 0, zKy⟩] else []
theorem rot_len (p : Pl) (y : Ky) : ∀ n : Nat, 1 ≤ (rotL p y n).length ∧ (rotL p y n).length ≤ n + 1
  | 0 => ⟨Nat.le_refl 1, Nat.le_refl 1⟩
  | n + 1 => by
    have ih := rot_len p y n
    unfold rotL
    split
    · rw [List.length_append]; simp; omega
    · omega
theorem ad_chk (a q w : Int) : chk (adE a q w) = 0 ∨ chk (adE a q w) = 14 := by
  unfold chk adE
  rw [if_neg (by simp), if_neg (by simp [inR])]
  split
  · exact .inr rfl
  · split
    · exact .inl rfl
    · exact .inr rfl
theorem gl_app (l : List En) (e : En) (j : Nat) : gl (l ++ [e]) j = if j = l.length then e else gl l j := by
  unfold gl
  by_cases h : j < l.length
  · rw [if_neg (by omega), List.getD_eq_getElem?_getD, List.getD_eq_getElem?_getD, List.getElem?_append_left h]
  · by_cases h2 : j = l.length
    · subst h2; rw [if_pos rfl]; simp
    · rw [if_neg h2, List.getD_eq_getElem?_getD, List.getD_eq_getElem?_getD, List.getElem?_eq_none (by simp; omega), List.getElem?_eq_none (by omega)]
theorem OwE.as {w : World} {B m : Nat} {v : Value} {g g' : Nat → En} (h : OwE w B v m g) (hg : ∀ j, j < m → g j = g' j) : OwE w B v m g' := by
  unfold OwE at h ⊢
  exact h.as_ fun j hj => by rw [hg (j / 7) (by omega)]
end Go.Proofs.YtljgcffpijjliaaDoor
