/- Pools that are held while an order is open. -/
import Derived.Test.YteefhiniamajkaaGreatPolKnown
import Derived.Test.YteefhiniamajkaaGreatPolEnt
import Derived.Test.YteefhiniamajkaaGreatGp
import Derived.BigQuiet
import Derived.Deep.RegionHeld3
import Derived.Deep.Cut
namespace Go.Proofs.YteefhiniamajkaaGreat
set_option linter.unusedVariables false
set_option linter.unusedSimpArgs false
open Go.RowKit Go.ChangeShapes Go.WideShapes Go.ChangeAt

/-- Pools in blocks, a row of numbers that is read, all that was as it was. -/
def SS (W w : World) (L : List (Nat × Pl)) (A : Option Addr) (n : Nat) (g : Nat → Int) : Prop := (∀ x, x ∈ L → PoolAt w x.1 x.2) ∧ Is w A n g ∧ Below W.heap.size W w
section
variable {W w w' : World} {L : List (Nat × Pl)} {A : Option Addr} {n : Nat} {g : Nat → Int}
theorem SS.get (h : SS W w L A n g) {b : Nat} {p : Pl} (hx : (b, p) ∈ L) : PoolAt w b p := h.1 (b, p) hx
theorem SS.bl (h : SS W w L A n g) : Below W.heap.size W w := h.2.2
theorem SS.row (h : SS W w L A n g) : Is w A n g := h.2.1
theorem SS.below (h : SS W w L A n g) (hb : Below w.heap.size w w') : SS W w' L A n g := ⟨fun x hx => (h.1 x hx).below hb, Sl.below h.2.1 hb (Nat.le_refl _), h.2.2.trans (hb.mono h.2.2.size)⟩
theorem SS.alloc (h : SS W w L A n g) (o : Obj) : SS W (w.alloc o) L A n g := h.below ((Below.refl _ _).alloc (Nat.le_refl _) o)
theorem SS.drew (h : SS W w L A n g) : SS W w.drew L A n g := ⟨fun x hx => (h.1 x hx).drew, Sl.drew h.2.1, h.2.2.drew⟩
theorem SS.cons (h : SS W w L A n g) {b : Nat} {p : Pl} (hp : PoolAt w b p) : SS W w ((b, p) :: L) A n g :=
  ⟨fun x hx => by rcases List.mem_cons.1 hx with e | hx; (rw [e]; exact hp); exact h.1 x hx, h.2.1, h.2.2⟩
theorem SS.less (h : SS W w L A n g) {L' : List (Nat × Pl)} (hl : ∀ x, x ∈ L' → x ∈ L) : SS W w L' A n g := ⟨fun x hx => h.1 x (hl x hx), h.2.1, h.2.2⟩
theorem Sl.sets {f : Nat → Value} {m : Nat} (h : Sl w A m f) {c o : Nat} {vs : List Value} (hc : ∀ ad, A = some ad → 0 < m → ad.block ≠ c) : Sl (w.setCells c o vs) A m f := by
  intro h0
  obtain ⟨b, off, rfl, hlt, hcell⟩ := h h0
  refine ⟨b, off, rfl, by rw [size_setCells]; exact hlt, fun j hj => ?_⟩
  rw [World.cell?_setCells_out c vs o w ⟨b, off + j, none⟩ (fun e _ => absurd e (hc ⟨b, off, none⟩ rfl h0))]
  exact hcell j hj
/-- A block of its own is written. -/
theorem SS.sets (h : SS W w L A n g) {c o : Nat} {vs : List Value} (hL : ∀ x, x ∈ L → c ≠ x.1) (hA : ∀ ad, A = some ad → 0 < n → ad.block < W.heap.size) (hc : W.heap.size ≤ c) : SS W (w.setCells c o vs) L A n g :=
  ⟨fun x hx => (h.1 x hx).others (hL x hx), Sl.sets h.2.1 (fun ad e h0 => by have := hA ad e h0; omega), h.2.2.trans (keeps_setCells c vs o w _ hc)⟩
theorem SS.ne (h : SS W w L A n g) : ∀ x, x ∈ L → w.heap.size ≠ x.1 := fun x hx => Nat.ne_of_gt (h.1 x hx).1
end
section
variable {P : Program} {Q : Exit → Act → World → Prop} {md : Region.Mode} {S : World → Prop}
/-- Two may come up. -/
theorem twoUp (i j : Nat) {L rest rest' : List Oper} {o o' : Oper} {fuel : Nat} {listed : Array Bool} {a : Act} {w : World} (ho : L.drop i = o :: rest) (ho' : L.drop j = o' :: rest') (hr : Region.ready md L.toArray listed = [i, j])
    (hw : Region.wanted o (yielded L.toArray a.tmps) = true) (hw' : Region.wanted o' (yielded L.toArray a.tmps) = true)
    (h : ∀ K' : Act → World → Prop, Shut (∀ a w, S w → (S w → wpAnyH P md L.toArray Q S fuel (listed.setIfInBounds i true) a w) → K' a w) → Oper.wp P o a w K' Q)
    (h' : ∀ K' : Act → World → Prop, Shut (∀ a w, S w → (S w → wpAnyH P md L.toArray Q S fuel (listed.setIfInBounds j true) a w) → K' a w) → Oper.wp P o' a w K' Q) : wpAnyH P md L.toArray Q S (fuel + 1) listed a w :=
  wpAnyH_ready hr (by simp) (AllReadyH.cons (at_drop ho) (fun K hK => by rw [if_pos hw]; exact h K hK) (AllReadyH.cons (at_drop ho') (fun K hK => by rw [if_pos hw']; exact h' K hK) AllReadyH.nil))
end
theorem nwR_in {a q : Int} (ha : 0 ≤ a ∧ a ≤ 1000) (hq : 0 ≤ q ∧ q ≤ 1000) (k1 k2 : Ky) : nwR a q k1 k2 = (⟨0, a, q, fun _ => zSp, ⟨1, zKy, k1, k2⟩⟩, 0) := by
  have : mayB a q = true := by unfold mayB inR; simp; omega
  unfold nwR
  rw [this]
  rfl
theorem nwR_inv (a q : Int) (k1 k2 : Ky) : Pinv ⟨0, a, q, fun _ => zSp, ⟨1, zKy, k1, k2⟩⟩ 0 := ⟨(by show ((0:Int) ≤ 0 ∧ (0:Int) ≤ 0); decide), (by show ((1:Int) ≤ 1 ∧ (1:Int) ≤ 0 + 1); decide), fun i hi => (by show ((0:Int) ≤ 0 ∧ (0:Int) ≤ 0 + 1) ∧ (0:Int) ≤ 0 ∧ (0:Int) ≤ 4; decide)⟩
theorem neql_ {a b : Int} (h : a = b) : (a != b) = false := by subst h; simp
end Go.Proofs.YteefhiniamajkaaGreat
