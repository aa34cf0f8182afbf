/- Blocks that are read, blocks that are written whole: for regions walked step by step. -/
import Derived.Test.YtfokkmemjkfifabCookLaw
import Derived.Test.YtfokkmemjkfifabTakes
namespace Go.Proofs.Ytfokkmemjkfifab
set_option linter.unusedVariables false
open Go.RowKit Go.ChangeShapes Go.WideShapes Go.ChangeAt

def Cr (w : World) (b : Nat) (l : List Value) : Prop := b < w.heap.size ∧ ∀ j v, l[j]? = some v → w.cell? ⟨b, j, none⟩ = some v
theorem Ce.cr {w : World} {b : Nat} {l : List Value} (h : Ce w b l) : Cr w b l := ⟨h.1, h.2.1⟩
theorem Cr.below {w w' : World} {b : Nat} {l : List Value} (h : Cr w b l) (hb : Below w.heap.size w w') : Cr w' b l :=
  ⟨Nat.lt_of_lt_of_le h.1 hb.size, fun j v hj => (hb.cell (p := ⟨b, j, none⟩) h.1).trans (h.2 j v hj)⟩
theorem Cr.alloc {w : World} {b : Nat} {l : List Value} (h : Cr w b l) (o : Obj) : Cr (w.alloc o) b l := h.below ((Below.refl _ _).alloc (Nat.le_refl _) o)
theorem Cr.other {w : World} {b c j : Nat} {l : List Value} {v : Value} (h : Cr w b l) (hne : c ≠ b) : Cr (w.setCell ⟨c, j, none⟩ v) b l :=
  ⟨by simpa using h.1, fun i u hi => by rw [World.cell?_setCell_other _ _ _ _ (fun e => hne (by cases e; rfl))]; exact h.2 i u hi⟩
theorem Ce.set {w : World} {b : Nat} {l : List Value} (h : Ce w b l) (j : Nat) (v : Value) (hj : j < l.length) : Ce (w.setCell ⟨b, j, none⟩ v) b (l.set j v) := by
  refine ⟨by simpa using h.1, fun i u hi => ?_, fun i => by rw [World.frozen?_setCell]; exact h.2.2 i⟩
  by_cases e : i = j
  · subst e
    rw [List.getElem?_set_self hj] at hi
    injection hi with hi
    subst hi
    exact World.cell?_setCell_same _ _ _ (h.2.1 i _ (List.getElem?_eq_getElem hj))
  · rw [List.getElem?_set_ne (Ne.symm e)] at hi
    rw [World.cell?_setCell_other _ _ _ _ (fun x => e (by injection x with _ x; exact x.symm))]
    exact h.2.1 i u hi
def set7 (w : World) (b : Nat) (v0 v1 v2 v3 v4 v5 v6 : Value) : World :=
  ((((((w.setCell ⟨b, 0, none⟩ v0).setCell ⟨b, 1, none⟩ v1).setCell ⟨b, 2, none⟩ v2).setCell ⟨b, 3, none⟩ v3).setCell ⟨b, 4, none⟩ v4).setCell ⟨b, 5, none⟩ v5).setCell ⟨b, 6, none⟩ v6
/-- Seven cells that may be written. -/
def CX (w : World) (b : Nat) : Prop := ∃ x0 x1 x2 x3 x4 x5 x6 : Value, Ce w b [x0, x1, x2, x3, x4, x5, x6]
theorem CX.below {w w' : World} {b : Nat} (h : CX w b) (hb : Below w.heap.size w w') : CX w' b := by
  obtain ⟨_, _, _, _, _, _, _, h⟩ := h
  exact ⟨_, _, _, _, _, _, _, h.below hb⟩
theorem Ce.set7 {w : World} {b : Nat} {x0 x1 x2 x3 x4 x5 x6 : Value} (h : Ce w b [x0, x1, x2, x3, x4, x5, x6]) (v0 v1 v2 v3 v4 v5 v6 : Value) : Ce (Go.Proofs.Ytfokkmemjkfifab.set7 w b v0 v1 v2 v3 v4 v5 v6) b [v0, v1, v2, v3, v4, v5, v6] :=
  ((((((h.set 0 v0 (by simp)).set 1 v1 (by simp)).set 2 v2 (by simp)).set 3 v3 (by simp)).set 4 v4 (by simp)).set 5 v5 (by simp)).set 6 v6 (by simp)
theorem Cr.set7 {w : World} {b c : Nat} {l : List Value} {v0 v1 v2 v3 v4 v5 v6 : Value} (h : Cr w b l) (hne : c ≠ b) : Cr (Go.Proofs.Ytfokkmemjkfifab.set7 w c v0 v1 v2 v3 v4 v5 v6) b l :=
  ((((((h.other hne).other hne).other hne).other hne).other hne).other hne).other hne
theorem below_set7 {B : Nat} {w w' : World} {c : Nat} {v0 v1 v2 v3 v4 v5 v6 : Value} (h : Below B w w') (hc : B ≤ c) : Below B w (set7 w' c v0 v1 v2 v3 v4 v5 v6) :=
  ((((((h.setCell hc _).setCell hc _).setCell hc _).setCell hc _).setCell hc _).setCell hc _).setCell hc _

section
variable {P : Program} {Q : Exit → Act → World → Prop} {md : Region.Mode} {S : World → Prop}
/-- Two may come up. -/
theorem twoUp (i j : Nat) {L rest rest' : List Oper} {o o' : Oper} {fuel : Nat} {listed : Array Bool} {a : Act} {w : World} (ho : L.drop i = o :: rest) (ho' : L.drop j = o' :: rest') (hr : Region.ready md L.toArray listed = [i, j])
    (hw : Region.wanted o (yielded L.toArray a.tmps) = true) (hw' : Region.wanted o' (yielded L.toArray a.tmps) = true)
    (h : ∀ K' : Act → World → Prop, Shut (∀ a w, S w → (S w → wpAnyH P md L.toArray Q S fuel (listed.setIfInBounds i true) a w) → K' a w) → Oper.wp P o a w K' Q)
    (h' : ∀ K' : Act → World → Prop, Shut (∀ a w, S w → (S w → wpAnyH P md L.toArray Q S fuel (listed.setIfInBounds j true) a w) → K' a w) → Oper.wp P o' a w K' Q) : wpAnyH P md L.toArray Q S (fuel + 1) listed a w :=
  wpAnyH_ready hr (by simp) (AllReadyH.cons (at_drop ho) (fun K hK => by rw [if_pos hw]; exact h K hK) (AllReadyH.cons (at_drop ho') (fun K hK => by rw [if_pos hw']; exact h' K hK) AllReadyH.nil))
end
end Go.Proofs.Ytfokkmemjkfifab
