/- What a head holds, and does. -/
import Derived.Test.YtomlpkojnipkhaaGreatGa
import Derived.Test.YtomlpkojnipkhaaGreatHdMap
import Derived.Test.YtomlpkojnipkhaaGreatGt
namespace Go.Proofs.YtomlpkojnipkhaaGreat
set_option linter.unusedVariables false
set_option linter.unusedSimpArgs false
open Go.RowKit Go.ChangeShapes Go.WideShapes Go.ChangeAt

/-- A note. -/
structure Nt where
  u : Int
  b : Int
  v : Int
  wh : Bool
  ak : Bool
  e : En
  p : Pl
/-- A head: the pool behind what is published, behind all that waits; what waits, what came last, how many units; what each said. -/
structure Hd where
  pl : Pl
  ah : Pl
  q : List En
  la : En
  un : Nat
  wd : Nat → Wd
def newH (p : Pl) (u : Nat) : Hd := ⟨p, p, [], zEn, u, fun _ => ⟨0, -1⟩⟩
def allB (h : Hd) : Bool := (List.range h.un).all fun i => (h.wd i).v == h.pl.v
/-- The first of what waits is published. -/
def pubH (h : Hd) : Hd := match h.q with
  | [] => h
  | e :: t => if (apR h.pl e).2 = 0 then { h with pl := (apR h.pl e).1, la := e, q := t } else { h with q := t }
def sendH (h : Hd) : Hd := if allB h = true then pubH h else h
/-- Is just the entry sent? -/
def oneB (h : Hd) (i : Nat) : Bool := (h.la.k != 0) && ((h.wd i).v == h.pl.v - 1)
def noteH (h : Hd) (i : Nat) : Nt := if oneB h i = true then ⟨i, (h.wd i).b, h.pl.v, false, false, h.la, zPl⟩ else ⟨i, (h.wd i).b, h.pl.v, true, false, zEn, h.pl⟩
/-- The notes to the first k units. -/
def notesK (h : Hd) (k : Nat) : List Nt := ((List.range k).filter fun i => decide ((h.wd i).v < h.pl.v)).map (noteH h)
def setW (f : Nat → Wd) (i : Nat) (x : Wd) : Nat → Wd := fun j => if j = i then x else f j
def mx (v : Int) : Int := if v < -1 then -1 else v
/-- A word counts: of a later boot, or of this one, a later version. -/
def cntB (x y : Wd) : Bool := decide (x.b < y.b) || ((y.b == x.b) && decide (x.v < y.v))
def earB (h : Hd) (n : Nt) : Bool := n.ak && decide (0 ≤ n.u) && decide (n.u < h.un)
def heardH (h : Hd) (n : Nt) : Hd := if earB h n = true then (if cntB (h.wd n.u.toNat) ⟨n.b, mx n.v⟩ = true then { h with wd := setW h.wd n.u.toNat ⟨n.b, mx n.v⟩ } else h) else h
theorem notesK_succ (h : Hd) (k : Nat) : notesK h (k + 1) = if (h.wd k).v < h.pl.v then notesK h k ++ [noteH h k] else notesK h k := by
  unfold notesK
  rw [List.range_succ, List.filter_append, List.map_append]
  by_cases hk : (h.wd k).v < h.pl.v
  · rw [if_pos hk]; simp [hk]
  · rw [if_neg hk]; simp [hk]
theorem notesK_len (h : Hd) : ∀ k : Nat, (notesK h k).length ≤ k
  | 0 => by simp [notesK]
  | k + 1 => by
    have := notesK_len h k
    rw [notesK_succ]
    split <;> simp <;> omega
end Go.Proofs.YtomlpkojnipkhaaGreat

