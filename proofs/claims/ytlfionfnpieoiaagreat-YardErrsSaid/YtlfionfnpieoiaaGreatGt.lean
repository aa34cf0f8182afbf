/- The reference's All. Pools and rows of entries that are held while an order is open. Pools and blocks of cells that are held; an entry that is an argument. Rows of entries of the call's own. -/
import Derived.Test.YtlfionfnpieoiaaGreatPolMake
import Derived.Deep.CutRange
import Derived.BigQuiet
import Derived.Deep.RegionHeld3
import Derived.Deep.Cut
namespace Go.Proofs.YtlfionfnpieoiaaGreat
set_option linter.unusedVariables false
set_option linter.unusedSimpArgs false
open Go.RowKit Go.ChangeShapes Go.WideShapes Go.ChangeAt
/-- As SS, over a row of entries. -/
def TS (W w : World) (L : List (Nat × Pl)) (A : Option Addr) (n : Nat) (g : Nat → En) : Prop := (∀ x, x ∈ L → PoolAt w x.1 x.2) ∧ Se w A n g ∧ Below W.heap.size W w
section
variable {W w w' : World} {L : List (Nat × Pl)} {A : Option Addr} {n : Nat} {g : Nat → En}
theorem TS.get (h : TS W w L A n g) {b : Nat} {p : Pl} (hx : (b, p) ∈ L) : PoolAt w b p := h.1 (b, p) hx
theorem TS.below (h : TS W w L A n g) (hb : Below w.heap.size w w') : TS W w' L A n g := ⟨fun x hx => (h.1 x hx).below hb, Se.below h.2.1 hb (Nat.le_refl _), h.2.2.trans (hb.mono h.2.2.size)⟩
theorem TS.alloc (h : TS W w L A n g) (o : Obj) : TS W (w.alloc o) L A n g := h.below ((Below.refl _ _).alloc (Nat.le_refl _) o)
theorem TS.drew (h : TS W w L A n g) : TS W w.drew L A n g := ⟨fun x hx => (h.1 x hx).drew, Sl.drew h.2.1, h.2.2.drew⟩
theorem TS.cons (h : TS W w L A n g) {b : Nat} {p : Pl} (hp : PoolAt w b p) : TS W w ((b, p) :: L) A n g :=
 ⟨fun x hx => by rcases List.mem_cons.1 hx with e | hx; (rw [e]; exact hp); exact h.1 x hx, h.2.1, h.2.2⟩
theorem TS.less (h : TS W w L A n g) {L' : List (Nat × Pl)} (hl : ∀ x, x ∈ L' → x ∈ L) : TS W w L' A n g := ⟨fun x hx => h.1 x (hl x hx), h.2.1, h.2.2⟩
theorem TS.sets {b off : Nat} (h : TS W w L (some ⟨b, off, none⟩) n g) {c o : Nat} {vs : List Value} (hL : ∀ x, x ∈ L → c ≠ x.1) (hb : b ≠ c) (hc : W.heap.size ≤ c) : TS W (w.setCells c o vs) L (some ⟨b, off, none⟩) n g :=
 ⟨fun x hx => (h.1 x hx).others (hL x hx), Sl.sets h.2.1 (fun ad e _ => by injection e with e; subst e; exact hb), h.2.2.trans (keeps_setCells c vs o w _ hc)⟩
theorem TS.ne (h : TS W w L A n g) : ∀ x, x ∈ L → w.heap.size ≠ x.1 := fun x hx => Nat.ne_of_gt (h.1 x hx).1
end
attribute [local irreducible] PA
end Go.Proofs.YtlfionfnpieoiaaGreat
namespace Go.Proofs.YtlfionfnpieoiaaGreat
set_option linter.unusedVariables false
set_option linter.unusedSimpArgs false
open Go.RowKit Go.ChangeShapes Go.WideShapes Go.ChangeAt
/-- Pools in blocks, rows of entries in blocks, all that was as it was. -/
def SG (W w : World) (L : List (Nat × Pl)) (E : List (Nat × Nat × (Nat → En))) : Prop := (∀ x, x ∈ L → PoolAt w x.1 x.2) ∧ (∀ x, x ∈ E → Se w (some ⟨x.1, 0, none⟩) x.2.1 x.2.2) ∧ Below W.heap.size W w
section
variable {W w w' : World} {L : List (Nat × Pl)} {E : List (Nat × Nat × (Nat → En))}
theorem SG.get (h : SG W w L E) {b : Nat} {p : Pl} (hx : (b, p) ∈ L) : PoolAt w b p := h.1 (b, p) hx
theorem SG.bl (h : SG W w L E) : Below W.heap.size W w := h.2.2
theorem SG.start (h : Below W.heap.size W w) : SG W w [] [] := ⟨fun x hx => absurd hx (by simp), fun x hx => absurd hx (by simp), h⟩
theorem SG.below (h : SG W w L E) (hb : Below w.heap.size w w') : SG W w' L E := ⟨fun x hx => (h.1 x hx).below hb, fun x hx => Se.below (h.2.1 x hx) hb (Nat.le_refl _), h.2.2.trans (hb.mono h.2.2.size)⟩
theorem SG.alloc (h : SG W w L E) (o : Obj) : SG W (w.alloc o) L E := h.below ((Below.refl _ _).alloc (Nat.le_refl _) o)
theorem SG.drew (h : SG W w L E) : SG W w.drew L E := ⟨fun x hx => (h.1 x hx).drew, fun x hx => Sl.drew (h.2.1 x hx), h.2.2.drew⟩
theorem SG.cons (h : SG W w L E) {b : Nat} {p : Pl} (hp : PoolAt w b p) : SG W w ((b, p) :: L) E :=
 ⟨fun x hx => by rcases List.mem_cons.1 hx with e | hx; (rw [e]; exact hp); exact h.1 x hx, h.2.1, h.2.2⟩
theorem SG.row (h : SG W w L E) {b n : Nat} {g : Nat → En} (hp : Se w (some ⟨b, 0, none⟩) n g) : SG W w L ((b, n, g) :: E) :=
 ⟨h.1, fun x hx => by rcases List.mem_cons.1 hx with e | hx; (rw [e]; exact hp); exact h.2.1 x hx, h.2.2⟩
theorem SG.less (h : SG W w L E) {L' : List (Nat × Pl)} (hl : ∀ x, x ∈ L' → x ∈ L) : SG W w L' E := ⟨fun x hx => h.1 x (hl x hx), h.2.1, h.2.2⟩
/-- A block of its own is written. -/
theorem SG.sets (h : SG W w L E) {c o : Nat} {vs : List Value} (hL : ∀ x, x ∈ L → c ≠ x.1) (hE : ∀ x, x ∈ E → c ≠ x.1) (hc : W.heap.size ≤ c) : SG W (w.setCells c o vs) L E :=
 ⟨fun x hx => (h.1 x hx).others (hL x hx), fun x hx => Sl.sets (h.2.1 x hx) (fun ad e _ => by injection e with e; subst e; exact fun e => hE x hx e.symm), h.2.2.trans (keeps_setCells c vs o w _ hc)⟩
theorem SG.ne (h : SG W w L E) : ∀ x, x ∈ L → w.heap.size ≠ x.1 := fun x hx => Nat.ne_of_gt (h.1 x hx).1
theorem SG.neE (h : SG W w L E) (hp : ∀ x, x ∈ E → 0 < x.2.1) : ∀ x, x ∈ E → w.heap.size ≠ x.1 := fun x hx => Nat.ne_of_gt (Sl.lt (h.2.1 x hx) (by have := hp x hx; omega))
theorem SG.made (h : SG W w L E) {T : TypeId} (p : Pl) : SG W (w.alloc (.cells (PA p) T)) ((w.heap.size, p) :: L) E := (h.alloc _).cons (PoolAt.made rfl)
/-- A pool's block, made for one pool, then another one is stored. -/
theorem SG.put (h : SG W w L E) {T : TypeId} (p q : Pl) (hE : ∀ x, x ∈ E → 0 < x.2.1) : SG W ((w.alloc (.cells (PA p) T)).setCells w.heap.size 0 (PA q).toList) ((w.heap.size, q) :: L) E :=
 (SG.sets (h.alloc _) (SG.ne h) (SG.neE h hE) h.2.2.size).cons ((PoolAt.made rfl).whole q)
end
def enL (e : En) : List Value := [.int .i64 e.k, .int .i64 e.s, .int .i64 e.a, .int .i64 e.p, .int .i64 e.w, .int .u64 e.y.a, .int .u64 e.y.b]
def zEn : En := ⟨0, 0, 0, 0, 0, zKy⟩
end Go.Proofs.YtlfionfnpieoiaaGreat
namespace Go.Proofs.YtlfionfnpieoiaaGreat
set_option linter.unusedVariables false
set_option linter.unusedSimpArgs false
open Go.RowKit Go.ChangeShapes Go.WideShapes Go.ChangeAt
/-- Pools in blocks, blocks of cells, all that was as it was. -/
def SH (W w : World) (L : List (Nat × Pl)) (C : List (Nat × List Value)) : Prop := (∀ x, x ∈ L → PoolAt w x.1 x.2) ∧ (∀ x, x ∈ C → Ce w x.1 x.2) ∧ Below W.heap.size W w
section
variable {W w w' : World} {L : List (Nat × Pl)} {C : List (Nat × List Value)} {b : Nat} {l : List Value}
theorem SH.get (h : SH W w L C) {b : Nat} {p : Pl} (hx : (b, p) ∈ L) : PoolAt w b p := h.1 (b, p) hx
theorem SH.ce (h : SH W w L C) {b : Nat} {l : List Value} (hx : (b, l) ∈ C) : Ce w b l := h.2.1 (b, l) hx
theorem SH.bl (h : SH W w L C) : Below W.heap.size W w := h.2.2
theorem SH.start (h : Below W.heap.size W w) : SH W w [] [] := ⟨fun x hx => absurd hx (by simp), fun x hx => absurd hx (by simp), h⟩
theorem SH.below (h : SH W w L C) (hb : Below w.heap.size w w') : SH W w' L C := ⟨fun x hx => (h.1 x hx).below hb, fun x hx => (h.2.1 x hx).below hb, h.2.2.trans (hb.mono h.2.2.size)⟩
theorem SH.alloc (h : SH W w L C) (o : Obj) : SH W (w.alloc o) L C := h.below ((Below.refl _ _).alloc (Nat.le_refl _) o)
theorem SH.drew (h : SH W w L C) : SH W w.drew L C := ⟨fun x hx => (h.1 x hx).drew, fun x hx => h.2.1 x hx, h.2.2.drew⟩
theorem SH.cons (h : SH W w L C) {b : Nat} {p : Pl} (hp : PoolAt w b p) : SH W w ((b, p) :: L) C :=
 ⟨fun x hx => by rcases List.mem_cons.1 hx with e | hx; (rw [e]; exact hp); exact h.1 x hx, h.2.1, h.2.2⟩
theorem SH.cell (h : SH W w L C) {b : Nat} {l : List Value} (hp : Ce w b l) : SH W w L ((b, l) :: C) :=
 ⟨h.1, fun x hx => by rcases List.mem_cons.1 hx with e | hx; (rw [e]; exact hp); exact h.2.1 x hx, h.2.2⟩
theorem SH.less (h : SH W w L C) {L' : List (Nat × Pl)} (hl : ∀ x, x ∈ L' → x ∈ L) : SH W w L' C := ⟨fun x hx => h.1 x (hl x hx), h.2.1, h.2.2⟩
theorem SH.sets (h : SH W w L C) {c o : Nat} {vs : List Value} (hL : ∀ x, x ∈ L → c ≠ x.1) (hC : ∀ x, x ∈ C → c ≠ x.1) (hc : W.heap.size ≤ c) : SH W (w.setCells c o vs) L C :=
 ⟨fun x hx => (h.1 x hx).others (hL x hx), fun x hx => (h.2.1 x hx).oths (hC x hx), h.2.2.trans (keeps_setCells c vs o w _ hc)⟩
theorem SH.ne (h : SH W w L C) : ∀ x, x ∈ L → w.heap.size ≠ x.1 := fun x hx => Nat.ne_of_gt (h.1 x hx).1
theorem SH.neC (h : SH W w L C) : ∀ x, x ∈ C → w.heap.size ≠ x.1 := fun x hx => Nat.ne_of_gt (h.2.1 x hx).1
theorem SH.put (h : SH W w L C) {T : TypeId} (p q : Pl) : SH W ((w.alloc (.cells (PA p) T)).setCells w.heap.size 0 (PA q).toList) ((w.heap.size, q) :: L) C :=
 (SH.sets (h.alloc _) (SH.ne h) (SH.neC h) h.2.2.size).cons ((PoolAt.made rfl).whole q)
/-- A cell of a block is written. -/
theorem SH.set1 (h : SH W w [] ((b, l) :: C)) (j : Nat) (v : Value) (hj : j < l.length) (hC : ∀ x, x ∈ C → b ≠ x.1) (hc : W.heap.size ≤ b) : SH W (w.setCell ⟨b, j, none⟩ v) [] ((b, l.set j v) :: C) :=
 ⟨fun x hx => absurd hx (by simp), fun x hx => by
  rcases List.mem_cons.1 hx with e | hx
  ·rw [e]; exact Ce.set (h.2.1 (b, l) (by simp)) j v hj
  ·exact Ce.oth (h.2.1 x (List.mem_cons_of_mem _ hx)) (hC x hx), h.2.2.trans (keeps_setCells b [v] j w _ hc)⟩
end
section
variable {H : Type} {enc : TypeId × Value → H} {w : World} {base : Nat} {spare : Nat → Bool} {held : Bool}
end
end Go.Proofs.YtlfionfnpieoiaaGreat
namespace Go.Proofs.YtlfionfnpieoiaaGreat
set_option linter.unusedVariables false
set_option linter.unusedSimpArgs false
open Go.RowKit Go.ChangeShapes Go.WideShapes Go.ChangeAt
/-- A row of entries of the call's own. -/
def OwE (w : World) (B : Nat) (v : Value) (m : Nat) (g : Nat → En) : Prop := Ow w B 55 7 v m (fun j => enc (g (j / 7)) (j % 7))
section
variable {W w w' : World} {B m : Nat} {v : Value} {g : Nat → En} {L : List (Nat × Pl)}
theorem OwE.keep (h : OwE w B v m g) {D : Nat} (hb : Below D w w') (hD : w.heap.size ≤ D) : OwE w' B v m g := Ow.keep h hb hD
theorem OwE.cap {A : Option Addr} {c : Nat} (h : OwE w B (.slice A m c) m g) : m ≤ c := by
 obtain ⟨A', c', hv, hc, _⟩ := Ow.form_ h
 injection hv with _ _ h3
 omega
theorem OwE.nil : OwE w B (.slice none 0 0) 0 g := Ow.none_
theorem SG.grown (h : SG W w L []) {row : Option Nat} {D : Nat} (hg : w.grownBy w' row) (hne : ∀ x, x ∈ L → row ≠ some x.1) (hb : Below D w w') (hD : W.heap.size ≤ D) : SG W w' L [] :=
 ⟨fun x hx => (h.1 x hx).grown hg (hne x hx), fun x hx => absurd hx (by simp), h.2.2.trans (hb.mono hD)⟩
theorem below_put {T : TypeId} (p q : Pl) : Below w.heap.size w ((w.alloc (.cells (PA p) T)).setCells w.heap.size 0 (PA q).toList) := ((Below.refl _ _).alloc (Nat.le_refl _) _).trans (keeps_setCells _ _ _ _ _ (Nat.le_refl _))
end
theorem enc_one (e : En) (j : Nat) : (enc e j).oneCell' = true := by unfold enc; split <;> rfl
section
variable {w : World} {ops : Array Oper} {rest : List Oper} {o : Oper} {a : Act} {Q : Exit → Act → World → Prop}
end
theorem runP_add {p : Pl} {g : Nat → En} {k : Nat} {b : Pl} (hb : runP p g k = some b) : ∀ j : Nat, runP p g (k + j) = runP b (fun i => g (k + i)) j
 | 0 => hb
 | j + 1 => by
   show runP p g (k + j + 1) = _
   unfold runP
   rw [runP_add hb j]
/-- Up to a cut, and the rest behind it, are as all at once. -/
theorem AllOut.cut {p : Pl} {g : Nat → En} {n t m : Nat} {b : Pl} {f : Int} (ht : t ≤ n) (h1 : AllOut p g t b m f) : (f ≠ 0 → AllOut p g n b m f) ∧ ∀ {c : Pl} {o : Nat} {e : Int}, f = 0 → AllOut b (fun i => g (t + i)) (n - t) c o e → AllOut p g n c (m + o) e := by
 refine ⟨fun hf => ?_, fun {c o e} hf h2 => ?_⟩
 ·rcases h1.2 with ⟨_, e⟩ | ⟨h3, h4, h5⟩
  ·exact absurd e hf
  ·exact ⟨h1.1, .inr ⟨by omega, h4, h5⟩⟩
 ·have hm : m = t := by
   rcases h1.2 with ⟨e, _⟩ | ⟨_, _, e⟩
   ·exact e
   ·exact absurd hf e
  subst hm
  refine ⟨by rw [runP_add h1.1]; exact h2.1, ?_⟩
  rcases h2.2 with ⟨e1, e2⟩ | ⟨h3, h4, h5⟩
  ·exact .inl ⟨by omega, e2⟩
  ·exact .inr ⟨by omega, h4, h5⟩
end Go.Proofs.YtlfionfnpieoiaaGreat
