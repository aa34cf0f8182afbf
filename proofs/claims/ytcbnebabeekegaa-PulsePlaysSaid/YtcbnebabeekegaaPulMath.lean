/- What a slot's life becomes. -/
import Derived.Test.YtcbnebabeekegaaPulMap
namespace Go.Proofs.Ytcbnebabeekegaa
set_option linter.unusedVariables false
set_option linter.unusedSimpArgs false
open Go.RowKit Go.ChangeShapes Go.WideShapes Go.ChangeAt

/-- A block's cells: they are there and may be written. -/
def Ce (w : World) (b : Nat) (l : List Value) : Prop := b < w.heap.size ∧ (∀ j v, l[j]? = some v → w.cell? ⟨b, j, none⟩ = some v) ∧ ∀ j, w.frozen? ⟨b, j, none⟩ = false
theorem Ce.below {w w' : World} {b : Nat} {l : List Value} (h : Ce w b l) (hb : Below w.heap.size w w') : Ce w' b l :=
  ⟨Nat.lt_of_lt_of_le h.1 hb.size, fun j v hj => (hb.cell (p := ⟨b, j, none⟩) h.1).trans (h.2.1 j v hj), fun j => (World.frozen?_of_block (a := ⟨b, j, none⟩) (hb.block b h.1)).trans (h.2.2 j)⟩
theorem Ce.alloc {w : World} {b : Nat} {l : List Value} (h : Ce w b l) (o : Obj) : Ce (w.alloc o) b l := h.below ((Below.refl _ _).alloc (Nat.le_refl _) o)
theorem Ce.made {w : World} {l : List Value} {T : TypeId} {g : Nat} (hg : w.heap.size = g) : Ce (w.alloc (.cells l.toArray T)) g l := by
  subst hg
  have h : (w.alloc (.cells l.toArray T)).heap[w.heap.size]? = some (.cells l.toArray T (0, 0)) := heap_alloc_new w _
  refine ⟨by simp, fun j v hj => ?_, fun j => frozen_of_row _ _ _ _ _ h⟩
  rw [cell_of_row _ w.heap.size j l.toArray T (0, 0) h]
  simpa using hj
theorem Ce.grown {w w' : World} {b : Nat} {l : List Value} {row : Option Nat} (h : Ce w b l) (hg : w.grownBy w' row) (hne : row ≠ some b) : Ce w' b l :=
  have hb := hg.block b h.1 (fun e => hne e.symm)
  ⟨Nat.lt_of_lt_of_le h.1 hg.size, fun j v hj => (World.cell?_of_block (a := ⟨b, j, none⟩) hb).trans (h.2.1 j v hj), fun j => (World.frozen?_of_block (a := ⟨b, j, none⟩) hb).trans (h.2.2 j)⟩

def rowUp (wh : Bool) (lo : Int) (x : Bool) : Int := if wh = x then lo + 1 else 1
def verd (r f : Int) (l : Life) : Int := if (!l.1 && l.2.2.1 && decide (r ≤ l.2.2.2)) = true then 1 else if (l.1 && !l.2.2.1 && decide (f ≤ l.2.2.2)) = true then 2 else 0
def lifeUp (l : Life) (now : Int) (ok : Bool) : Life := (l.1, now, ok, rowUp l.2.2.1 l.2.2.2 ok)
def toldV (r f : Int) (l : Life) (now : Int) (ok : Bool) : Int := verd r f (lifeUp l now ok)
def toldL (r f : Int) (l : Life) (now : Int) (ok : Bool) : Life := if toldV r f l now ok = 0 then lifeUp l now ok else (toldV r f l now ok == 1, now, false, 0)
def cur (M : Int → Option Life) (s : Int) : Life := (M s).getD zLife
def isSl (s : Int) : Bool := decide (0 ≤ s) && decide (s < 64)
/-- A pulse at block p, its map in block b. -/
def PulseAt (w : World) (p b n : Nat) (r f e : Int) (M : Int → Option Life) : Prop := Ce w p [.int .i64 r, .int .i64 f, .int .i64 e, .map (some b)] ∧ MapAt w b n M ∧ p ≠ b
end Go.Proofs.Ytcbnebabeekegaa
