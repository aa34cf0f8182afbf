/- Keys, rings, blocks of cells. -/
import Derived.Test.YtljgcffpijjliaaDoorWithin
import Derived.Test.YtljgcffpijjliaaDoorTakes
import Derived.Deep.RegionHeld3
import Derived.Deep.Cut
import Derived.BigQuiet
namespace Go.Proofs.YtljgcffpijjliaaDoor
set_option linter.unusedVariables false
set_option linter.unusedSimpArgs false
open Go.RowKit Go.ChangeShapes Go.WideShapes Go.ChangeAt

structure Ky where
  a : Int
  b : Int
structure Rg where
  e : Int
  p : Ky
  c : Ky
  n : Ky
theorem re_u64 {P : Program} {F : FuncId} {args : Array Value} {w : World} {R : World → Prop} {a b : Int} (h : Calls P F args w fun e w' => e = .returned (.int .u64 a) ∧ R w') (he : a = b) :
    Calls P F args w fun e w' => e = .returned (.int .u64 b) ∧ R w' := by subst he; exact h
theorem re_v {P : Program} {F : FuncId} {args : Array Value} {w : World} {R : World → Prop} {a b : Value} (h : Calls P F args w fun e w' => e = .returned a ∧ R w') (he : a = b) :
    Calls P F args w fun e w' => e = .returned b ∧ R w' := by subst he; exact h
theorem then_ {w a b : World} (h : Below w.heap.size w a) (k : Below a.heap.size a b) : Below w.heap.size w b := h.trans (k.mono h.size)
/-- Cells of a block, that may be written. -/
def Ce (w : World) (b : Nat) (l : List Value) : Prop := b < w.heap.size ∧ (∀ j v, l[j]? = some v → w.cell? ⟨b, j, none⟩ = some v) ∧ ∀ j, w.frozen? ⟨b, j, none⟩ = false
theorem Ce.below {w w' : World} {b : Nat} {l : List Value} (h : Ce w b l) (hb : Below w.heap.size w w') : Ce w' b l :=
  ⟨Nat.lt_of_lt_of_le h.1 hb.size, fun j v hj => (hb.cell (p := ⟨b, j, none⟩) h.1).trans (h.2.1 j v hj), fun j => (World.frozen?_of_block (a := ⟨b, j, none⟩) (hb.block b h.1)).trans (h.2.2 j)⟩
theorem Ce.alloc {w : World} {b : Nat} {l : List Value} (h : Ce w b l) (o : Obj) : Ce (w.alloc o) b l := h.below ((Below.refl _ _).alloc (Nat.le_refl _) o)
theorem Ce.made {w : World} {l : List Value} {T : TypeId} {g : Nat} (hg : w.heap.size = g) : Ce (w.alloc (.cells l.toArray T)) g l := by
  subst hg
  have h : (w.alloc (.cells l.toArray T)).heap[w.heap.size]? = some (.cells l.toArray T (0, 0)) := heap_alloc_new w _
  refine ⟨by simp, fun j v hj => ?_, fun j => frozen_of_row _ _ _ _ _ h⟩
  rw [cell_of_row _ w.heap.size j l.toArray T (0, 0) h]
  simpa using hj

/-- What a cell holds, whatever it is. -/
def cv (w : World) (b j : Nat) : Value := (w.cell? ⟨b, j, none⟩).getD undef
theorem cv_of {w : World} {b j : Nat} {v : Value} (h : w.cell? ⟨b, j, none⟩ = some v) : w.cell? ⟨b, j, none⟩ = some (cv w b j) := by unfold cv; rw [h]; rfl
theorem cv_of' {w : World} {b j : Nat} (h : (w.cell? ⟨b, j, none⟩).isSome = true) : w.cell? ⟨b, j, none⟩ = some (cv w b j) := by
  obtain ⟨v, hv⟩ := Option.isSome_iff_exists.1 h
  exact cv_of hv
theorem cv_set {w : World} {b j : Nat} {p : Addr} {v : Value} (h : w.cell? ⟨b, j, none⟩ = some (cv w b j)) : (w.setCell p v).cell? ⟨b, j, none⟩ = some (cv (w.setCell p v) b j) := by
  obtain ⟨v', h'⟩ := cell?_setCell_some (w := w) (p := p) (x := v) (q := ⟨b, j, none⟩) h
  exact cv_of h'
theorem cell_back {w : World} {b j : Nat} {p : Addr} {v u : Value} (h : (w.setCell p v).cell? ⟨b, j, none⟩ = some u) : ∃ u', w.cell? ⟨b, j, none⟩ = some u' := by
  by_cases e : p = ⟨b, j, none⟩
  · subst e
    cases hb : w.heap[b]? with
    | none => simp [World.cell?, World.setCell, Array.getElem?_modify, hb] at h
    | some o =>
      cases o with
      | cells c el fr =>
        simp [World.cell?, World.setCell, Array.getElem?_modify, hb] at h ⊢
        have hj : j < c.size := by
          rcases Nat.lt_or_ge j c.size with hj | hj
          · exact hj
          · simp [Array.setIfInBounds, Nat.not_lt.2 hj] at h
        exact ⟨_, Array.getElem?_eq_getElem hj⟩
      | _ => simp [World.cell?, World.setCell, Array.getElem?_modify, hb] at h
  · rw [World.cell?_setCell_other _ _ _ _ e] at h
    exact ⟨u, h⟩
theorem cell_last {w : World} {b j : Nat} {v u : Value} (h : (w.setCell ⟨b, j, none⟩ v).cell? ⟨b, j, none⟩ = some u) : (w.setCell ⟨b, j, none⟩ v).cell? ⟨b, j, none⟩ = some v := by
  obtain ⟨u', h'⟩ := cell_back h
  exact World.cell?_setCell_same _ _ _ h'
theorem set3 {w : World} {R : Nat} {a b c u0 u1 u2 : Value} (h0 : (((w.setCell ⟨R, 0, none⟩ a).setCell ⟨R, 1, none⟩ b).setCell ⟨R, 2, none⟩ c).cell? ⟨R, 0, none⟩ = some u0)
    (h1 : (((w.setCell ⟨R, 0, none⟩ a).setCell ⟨R, 1, none⟩ b).setCell ⟨R, 2, none⟩ c).cell? ⟨R, 1, none⟩ = some u1) (h2 : (((w.setCell ⟨R, 0, none⟩ a).setCell ⟨R, 1, none⟩ b).setCell ⟨R, 2, none⟩ c).cell? ⟨R, 2, none⟩ = some u2) :
    (((w.setCell ⟨R, 0, none⟩ a).setCell ⟨R, 1, none⟩ b).setCell ⟨R, 2, none⟩ c).cell? ⟨R, 0, none⟩ = some a ∧ (((w.setCell ⟨R, 0, none⟩ a).setCell ⟨R, 1, none⟩ b).setCell ⟨R, 2, none⟩ c).cell? ⟨R, 1, none⟩ = some b ∧ (((w.setCell ⟨R, 0, none⟩ a).setCell ⟨R, 1, none⟩ b).setCell ⟨R, 2, none⟩ c).cell? ⟨R, 2, none⟩ = some c := by
  obtain ⟨u, g0⟩ := cell_back h0
  obtain ⟨u', g0'⟩ := cell_back g0
  obtain ⟨v, g1⟩ := cell_back h1
  refine ⟨?_, ?_, cell_last h2⟩
  · rw [World.cell?_setCell_other _ _ _ _ (by simp), World.cell?_setCell_other _ _ _ _ (by simp)]
    exact cell_last g0'
  · rw [World.cell?_setCell_other _ _ _ _ (by simp)]
    exact cell_last g1
theorem at_world {P : Program} {fn : Func} {post : Ending → World → Prop} {x : Exit} {a : Act} {W : World} (Q : World → Prop) (hQ : Q W) (h : ∀ w, Q w → bodyPost P fn post x a w) : bodyPost P fn post x a W := h W hQ
def kyV (k : Ky) : Value := .agg #[.int .u64 k.a, .int .u64 k.b]
def rgV (r : Rg) : Value := .agg #[.int .i64 r.e, .int .u64 r.p.a, .int .u64 r.p.b, .int .u64 r.c.a, .int .u64 r.c.b, .int .u64 r.n.a, .int .u64 r.n.b]
def I64 (x : Int) : Prop := -9223372036854775808 ≤ x ∧ x ≤ 9223372036854775807
def Ep (e : Int) : Prop := -4611686018427387904 ≤ e ∧ e ≤ 4611686018427387904
end Go.Proofs.YtljgcffpijjliaaDoor
