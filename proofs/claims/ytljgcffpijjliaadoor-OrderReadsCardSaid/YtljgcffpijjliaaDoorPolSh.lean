/- Pools and blocks of cells that are held; an entry that is an argument. -/
import Derived.Test.YtljgcffpijjliaaDoorPolSg
import Derived.BigQuiet
import Derived.Deep.RegionHeld3
import Derived.Deep.Cut
namespace Go.Proofs.YtljgcffpijjliaaDoor
set_option linter.unusedVariables false
set_option linter.unusedSimpArgs false
open Go.RowKit Go.ChangeShapes Go.WideShapes Go.ChangeAt

/-- Pools in blocks, blocks of cells, all that was as it was. -/
def SH (W w : World) (L : List (Nat × Pl)) (C : List (Nat × List Value)) : Prop := (∀ x, x ∈ L → PoolAt w x.1 x.2) ∧ (∀ x, x ∈ C → Ce w x.1 x.2) ∧ Below W.heap.size W w
section
variable {W w w' : World} {L : List (Nat × Pl)} {C : List (Nat × List Value)} {b : Nat} {l : List Value}
theorem SH.get (h : SH W w L C) {b : Nat} {p : Pl} (hx : (b, p) ∈ L) : PoolAt w b p := h.1 (b, p) hx
theorem SH.ce (h : SH W w L C) {b : Nat} {l : List Value} (hx : (b, l) ∈ C) : Ce w b l := h.2.1 (b, l) hx
theorem SH.bl (h : SH W w L C) : Below W.heap.size W w := h.2.2
theorem SH.start (h : Below W.heap.size W w) : SH W w [] [] := ⟨fun x hx => absurd hx (by simp), fun x hx => absurd hx (by simp), h⟩
theorem SH.below (h : SH W w L C) (hb : Below w.heap.size w w') : SH W w' L C := ⟨fun x hx => (h.1 x hx).below hb, fun x hx => (h.2.1 x hx).below hb, h.2.2.trans (hb.mono h.2.2.size)⟩
theorem SH.alloc (h : SH W w L C) (o : Obj) : SH W (w.alloc o) L C := h.below ((Below.refl _ _).alloc (Nat.le_refl _) o)
theorem SH.drew (h : SH W w L C) : SH W w.drew L C := ⟨fun x hx => (h.1 x hx).drew, fun x hx => h.2.1 x hx, h.2.2.drew⟩
theorem SH.cons (h : SH W w L C) {b : Nat} {p : Pl} (hp : PoolAt w b p) : SH W w ((b, p) :: L) C :=
  ⟨fun x hx => by rcases List.mem_cons.1 hx with e | hx; (rw [e]; exact hp); exact h.1 x hx, h.2.1, h.2.2⟩
theorem SH.cell (h : SH W w L C) {b : Nat} {l : List Value} (hp : Ce w b l) : SH W w L ((b, l) :: C) :=
  ⟨h.1, fun x hx => by rcases List.mem_cons.1 hx with e | hx; (rw [e]; exact hp); exact h.2.1 x hx, h.2.2⟩
theorem SH.less (h : SH W w L C) {L' : List (Nat × Pl)} (hl : ∀ x, x ∈ L' → x ∈ L) : SH W w L' C := ⟨fun x hx => h.1 x (hl x hx), h.2.1, h.2.2⟩
theorem SH.lessC (h : SH W w L C) {C' : List (Nat × List Value)} (hl : ∀ x, x ∈ C' → x ∈ C) : SH W w L C' := ⟨h.1, fun x hx => h.2.1 x (hl x hx), h.2.2⟩
theorem SH.sets (h : SH W w L C) {c o : Nat} {vs : List Value} (hL : ∀ x, x ∈ L → c ≠ x.1) (hC : ∀ x, x ∈ C → c ≠ x.1) (hc : W.heap.size ≤ c) : SH W (w.setCells c o vs) L C :=
  ⟨fun x hx => (h.1 x hx).others (hL x hx), fun x hx => (h.2.1 x hx).oths (hC x hx), h.2.2.trans (keeps_setCells c vs o w _ hc)⟩
theorem SH.ne (h : SH W w L C) : ∀ x, x ∈ L → w.heap.size ≠ x.1 := fun x hx => Nat.ne_of_gt (h.1 x hx).1
theorem SH.neC (h : SH W w L C) : ∀ x, x ∈ C → w.heap.size ≠ x.1 := fun x hx => Nat.ne_of_gt (h.2.1 x hx).1
theorem SH.put (h : SH W w L C) {T : TypeId} (p q : Pl) : SH W ((w.alloc (.cells (PA p) T)).setCells w.heap.size 0 (PA q).toList) ((w.heap.size, q) :: L) C :=
  (SH.sets (h.alloc _) (SH.ne h) (SH.neC h) h.2.2.size).cons ((PoolAt.made rfl).whole q)
theorem SH.mk_ (h : SH W w L C) {T : TypeId} (l : List Value) : SH W (w.alloc (.cells l.toArray T)) L ((w.heap.size, l) :: C) := (h.alloc _).cell (Ce.made rfl)
/-- A cell of a block is written. -/
theorem SH.set1 (h : SH W w [] ((b, l) :: C)) (j : Nat) (v : Value) (hj : j < l.length) (hC : ∀ x, x ∈ C → b ≠ x.1) (hc : W.heap.size ≤ b) : SH W (w.setCell ⟨b, j, none⟩ v) [] ((b, l.set j v) :: C) :=
  ⟨fun x hx => absurd hx (by simp), fun x hx => by
    rcases List.mem_cons.1 hx with e | hx
    · rw [e]; exact Ce.set (h.2.1 (b, l) (by simp)) j v hj
    · exact Ce.oth (h.2.1 x (List.mem_cons_of_mem _ hx)) (hC x hx), h.2.2.trans (keeps_setCells b [v] j w _ hc)⟩
end
section
variable {H : Type} {enc : TypeId × Value → H} {w : World} {base : Nat} {spare : Nat → Bool} {held : Bool}
set_option maxRecDepth 100000 in
/-- An entry that is an argument. -/
theorem open_entry {r : Reach} {b0 : Nat} {v : Value} {d : DataW H} {p : List MemPlace} (hv : Value.okWide Tryd.prog w r b0 56 v) (h : DataW.Trod enc Tryd.prog w base spare held 56 v d p) :
    ∃ a1 a2 a3 a4 a5 a6 a7 : Int, v = .agg #[.int .i64 a1, .int .i64 a2, .int .i64 a3, .int .i64 a4, .int .i64 a5, .int .u64 a6, .int .u64 a7] := by
  have hI : Tryd.prog.cellsOf 3 = 1 := by kernel_rfl
  have hU : Tryd.prog.cellsOf 27 = 1 := by kernel_rfl
  have hK : Tryd.prog.cellsOf 29 = 2 := by kernel_rfl
  have hE : Tryd.prog.cellsOf 56 = 7 := by kernel_rfl
  obtain ⟨cs, rfl, hsz⟩ := okWide_struct Tryd.underlying56 hv
  obtain ⟨l⟩ := cs
  match l, hsz.trans hE with
  | [c0, c1, c2, c3, c4, c5, c6], _ =>
    obtain ⟨fuel, hf⟩ := h
    obtain ⟨xs, n, _, _, _, hlen, hg⟩ := DataW.trod_struct Tryd.underlying56 hf
    match xs, hlen with
    | [y0, y1, y2, y3, y4, y5], _ =>
      have g0 := hg 0 _ rfl
      have g1 := hg 1 _ rfl
      have g2 := hg 2 _ rfl
      have g3 := hg 3 _ rfl
      have g4 := hg 4 _ rfl
      have g5 := hg 5 _ rfl
      (try dsimp only at g0 g1 g2 g3 g4 g5); simp only [hI, hK, Value.cells] at g0 g1 g2 g3 g4 g5
      obtain ⟨a1, e1, _⟩ := DataW.trod_int Tryd.underlying3 g0
      obtain ⟨a2, e2, _⟩ := DataW.trod_int Tryd.underlying3 g1
      obtain ⟨a3, e3, _⟩ := DataW.trod_int Tryd.underlying3 g2
      obtain ⟨a4, e4, _⟩ := DataW.trod_int Tryd.underlying3 g3
      obtain ⟨a5, e5, _⟩ := DataW.trod_int Tryd.underlying3 g4
      obtain ⟨xs2, n2, _, _, _, hlen2, hg2⟩ := DataW.trod_struct Tryd.underlying29 g5
      match xs2, hlen2 with
      | [z0, z1], _ =>
        have k0 := hg2 0 _ rfl
        have k1 := hg2 1 _ rfl
        (try dsimp only at k0 k1); (try simp only [hU] at k0 k1)
        obtain ⟨a6, e6, _⟩ := DataW.trod_int Tryd.underlying27 k0
        obtain ⟨a7, e7, _⟩ := DataW.trod_int Tryd.underlying27 k1
        simp [hI, hU, hK] at e1 e2 e3 e4 e5 e6 e7
        subst e1; subst e2; subst e3; subst e4; subst e5; subst e6; subst e7
        exact ⟨_, _, _, _, _, _, _, rfl⟩
end
end Go.Proofs.YtljgcffpijjliaaDoor
