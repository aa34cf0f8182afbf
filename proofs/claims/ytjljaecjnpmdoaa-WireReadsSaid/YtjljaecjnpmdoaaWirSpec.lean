/- What packets' functions tell. -/
import Derived.Test.YtjljaecjnpmdoaaWirTurn
import Derived.BigQuiet
import Derived.Deep.RegionHeld3
import Derived.Deep.Cut
namespace Go.Proofs.Ytjljaecjnpmdoaa
set_option linter.unusedVariables false
set_option linter.unusedSimpArgs false
open Go.RowKit Go.ChangeShapes Go.WideShapes Go.ChangeAt

/-- What a packet's body's sum is of: how long, which bytes. -/
def endF (g : Nat → Int) (n : Nat) : Nat → Int := fun j => if j = 0 then 0 else if j = 1 then g 0 else if j = 2 then by8 ((n : Int) - 16) 1 else by8 ((n : Int) - 16) 0
def sumN (g : Nat → Int) (n : Nat) : Nat := if g 0 = 3 then n - 12 else n - 4
def sumF (g : Nat → Int) (n : Nat) : Nat → Int := if g 0 = 3 then fun j => if j < 4 then endF g n j else g (12 + j) else fun j => if j < 8 then g (4 + j) else if j < 12 then endF g n (j - 8) else g (4 + j)
theorem endF_B {g : Nat → Int} (hg : IsB g) (n : Nat) : IsB (endF g n) := by
  intro j; unfold endF
  split
  · omega
  · split
    · exact hg 0
    · split <;> exact by8_bd _ _
theorem sumF_B {g : Nat → Int} (hg : IsB g) (n : Nat) : IsB (sumF g n) := by
  intro j; unfold sumF
  split <;> (dsimp only; repeat' split) <;> first | exact hg _ | exact endF_B hg n _
/-- Is a packet's body right? -/
def wholeB (g : Nat → Int) (n : Nat) : Bool := parseE g n == 0 && (bareF g || norm (tot (sumF g n) (sumN g n)) == 65535)
/-- One pair's change told to the sum at s. -/
def tstep (s L : Nat) (g x : Nat → Int) (i : Nat) : Nat → Int := putF x s 2 (turn (num x s 2) (pairF g L i) (pairF x L i))
def tbody (s L : Nat) (g : Nat → Int) : Nat → Nat → (Nat → Int) → (Nat → Int)
  | 0, _, x => x
  | k + 1, i, x => tbody s L g k (i + 2) (tstep s L g x i)
/-- May these bytes be written? -/
def mayB (g : Nat → Int) (L : Nat) (a m v : Int) : Bool := (m == 1 && decide (v ≤ 255) || m == 2 && decide (v ≤ 65535) || m == 4 && decide (v ≤ 4294967295)) && decide (0 ≤ v) && decide (16 ≤ a) && decide (a ≤ (L : Int) - m) && (decide (a + m ≤ (sumA (g 0) : Int)) || decide ((sumA (g 0) : Int) + 2 ≤ a))
def wrF (g : Nat → Int) (L a m : Nat) (v : Int) : Nat → Int := if bareF g = true then putF g a m v else fillF (tbody (sumA (g 0)) L g ((m + a % 2 + 1) / 2) (a - a % 2) (putF g a m v))
def wrE (g : Nat → Int) (L : Nat) (a m v : Int) : Int := if parseE g L ≠ 0 then parseE g L else if mayB g L a m v = true then 0 else 14
def ageE (g : Nat → Int) (L : Nat) : Int := if parseE g L ≠ 0 then parseE g L else if g 1 ≤ 1 then 7 else 0
def ageF (g : Nat → Int) : Nat → Int := putF (set1 g 1 (g 1 - 1)) 14 2 (turn (num g 14 2) (num g 0 2) (num (set1 g 1 (g 1 - 1)) 0 2))
def natE (g : Nat → Int) (L : Nat) (ad pt : Int) : Int := if parseE g L ≠ 0 then parseE g L else if g 0 = 3 then 2 else if inR ad 4294967295 && inR pt 65535 then 0 else 14
/-- A place laid over. -/
def natP (g : Nat → Int) (s : Bool) (ad pt : Int) : Nat → Int := if s = true then putF (putF g 4 4 ad) 16 2 pt else putF (putF g 8 4 ad) 18 2 pt
def natF (g : Nat → Int) (L : Nat) (s : Bool) (ad pt : Int) : Nat → Int :=
  let a := if s = true then 4 else 8
  let p := if s = true then 16 else 18
  let x := tbody 14 L g 2 a (natP g s ad pt)
  if bareF g = true then x else fillF (tbody 22 L g 1 p (tbody 22 L g 2 a x))
/-- Build. -/
def rangeB (p : Pk) : Bool := inR p.life 255 && inR p.piece 255 && inR p.src 4294967295 && inR p.dst 4294967295 && (if p.kind = 3 then inR p.code 255 else inR p.fp 65535 && inR p.tp 65535 && (if p.kind = 2 then inR p.label 65535 else inR p.flags 15))
def lenP (p : Pk) : Nat := if p.kind = 3 then 20 + p.nd else if p.kind = 2 then 24 + p.nd else 24 + p.no + p.nd
def buildE (p : Pk) : Int := if isK p.kind = false then 2 else if rangeB p = false then 14 else if p.kind = 1 ∧ 40 < p.no then 5 else if p.kind = 3 ∧ p.nd < 24 ∨ 1500 < lenP p then 3 else 0
def bodyF (p : Pk) : Nat → Int := fun j =>
  if p.kind = 3 then (if j = 0 then p.code else if j < 4 then 0 else p.gd (j - 4))
  else if j < 2 then by8 p.fp (1 - j) else if j < 4 then by8 p.tp (3 - j)
  else if p.kind = 2 then (if j < 6 then by8 p.label (5 - j) else if j < 8 then 0 else p.gd (j - 8))
  else if j = 4 then p.flags else if j = 5 then (p.no : Int) else if j < 8 then 0 else if j < 8 + p.no then p.go (j - 8) else p.gd (j - 8 - p.no)
def rawF (p : Pk) : Nat → Int := fun j =>
  if j = 0 then p.kind else if j = 1 then p.life else if j < 4 then by8 (lenP p) (3 - j) else if j < 8 then by8 p.src (7 - j) else if j < 12 then by8 p.dst (11 - j) else if j = 12 then p.piece else if j < 16 then 0 else bodyF p (j - 16)
def hedF (p : Pk) : Nat → Int := putF (rawF p) 14 2 (65535 - norm (tot (rawF p) 16))
def builtF (p : Pk) : Nat → Int := if p.kind = 2 ∧ p.bare = true then hedF p else fillF (putF (hedF p) (sumA p.kind) 2 (65535 - norm (tot (sumF (hedF p) (lenP p)) (sumN (hedF p) (lenP p)))))
end Go.Proofs.Ytjljaecjnpmdoaa
