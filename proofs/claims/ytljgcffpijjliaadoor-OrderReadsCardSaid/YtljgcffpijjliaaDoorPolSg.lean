/- Pools and rows of entries that are held while an order is open. -/
import Derived.Test.YtljgcffpijjliaaDoorPolRall
import Derived.BigQuiet
import Derived.Deep.RegionHeld3
import Derived.Deep.Cut
namespace Go.Proofs.YtljgcffpijjliaaDoor
set_option linter.unusedVariables false
set_option linter.unusedSimpArgs false
open Go.RowKit Go.ChangeShapes Go.WideShapes Go.ChangeAt

/-- Pools in blocks, rows of entries in blocks, all that was as it was. -/
def SG (W w : World) (L : List (Nat × Pl)) (E : List (Nat × Nat × (Nat → En))) : Prop := (∀ x, x ∈ L → PoolAt w x.1 x.2) ∧ (∀ x, x ∈ E → Se w (some ⟨x.1, 0, none⟩) x.2.1 x.2.2) ∧ Below W.heap.size W w
section
variable {W w w' : World} {L : List (Nat × Pl)} {E : List (Nat × Nat × (Nat → En))}
theorem SG.get (h : SG W w L E) {b : Nat} {p : Pl} (hx : (b, p) ∈ L) : PoolAt w b p := h.1 (b, p) hx
theorem SG.ent (h : SG W w L E) {b n : Nat} {g : Nat → En} (hx : (b, n, g) ∈ E) : Se w (some ⟨b, 0, none⟩) n g := h.2.1 (b, n, g) hx
theorem SG.bl (h : SG W w L E) : Below W.heap.size W w := h.2.2
theorem SG.start (h : Below W.heap.size W w) : SG W w [] [] := ⟨fun x hx => absurd hx (by simp), fun x hx => absurd hx (by simp), h⟩
theorem SG.below (h : SG W w L E) (hb : Below w.heap.size w w') : SG W w' L E := ⟨fun x hx => (h.1 x hx).below hb, fun x hx => Se.below (h.2.1 x hx) hb (Nat.le_refl _), h.2.2.trans (hb.mono h.2.2.size)⟩
theorem SG.alloc (h : SG W w L E) (o : Obj) : SG W (w.alloc o) L E := h.below ((Below.refl _ _).alloc (Nat.le_refl _) o)
theorem SG.drew (h : SG W w L E) : SG W w.drew L E := ⟨fun x hx => (h.1 x hx).drew, fun x hx => Sl.drew (h.2.1 x hx), h.2.2.drew⟩
theorem SG.cons (h : SG W w L E) {b : Nat} {p : Pl} (hp : PoolAt w b p) : SG W w ((b, p) :: L) E :=
  ⟨fun x hx => by rcases List.mem_cons.1 hx with e | hx; (rw [e]; exact hp); exact h.1 x hx, h.2.1, h.2.2⟩
theorem SG.row (h : SG W w L E) {b n : Nat} {g : Nat → En} (hp : Se w (some ⟨b, 0, none⟩) n g) : SG W w L ((b, n, g) :: E) :=
  ⟨h.1, fun x hx => by rcases List.mem_cons.1 hx with e | hx; (rw [e]; exact hp); exact h.2.1 x hx, h.2.2⟩
theorem SG.less (h : SG W w L E) {L' : List (Nat × Pl)} (hl : ∀ x, x ∈ L' → x ∈ L) : SG W w L' E := ⟨fun x hx => h.1 x (hl x hx), h.2.1, h.2.2⟩
theorem SG.lessE (h : SG W w L E) {E' : List (Nat × Nat × (Nat → En))} (hl : ∀ x, x ∈ E' → x ∈ E) : SG W w L E' := ⟨h.1, fun x hx => h.2.1 x (hl x hx), h.2.2⟩
/-- A block of its own is written. -/
theorem SG.sets (h : SG W w L E) {c o : Nat} {vs : List Value} (hL : ∀ x, x ∈ L → c ≠ x.1) (hE : ∀ x, x ∈ E → c ≠ x.1) (hc : W.heap.size ≤ c) : SG W (w.setCells c o vs) L E :=
  ⟨fun x hx => (h.1 x hx).others (hL x hx), fun x hx => Sl.sets (h.2.1 x hx) (fun ad e _ => by injection e with e; subst e; exact fun e => hE x hx e.symm), h.2.2.trans (keeps_setCells c vs o w _ hc)⟩
theorem SG.ne (h : SG W w L E) : ∀ x, x ∈ L → w.heap.size ≠ x.1 := fun x hx => Nat.ne_of_gt (h.1 x hx).1
theorem SG.neE (h : SG W w L E) (hp : ∀ x, x ∈ E → 0 < x.2.1) : ∀ x, x ∈ E → w.heap.size ≠ x.1 := fun x hx => Nat.ne_of_gt (Sl.lt (h.2.1 x hx) (by have := hp x hx; omega))
theorem SG.made (h : SG W w L E) {T : TypeId} (p : Pl) : SG W (w.alloc (.cells (PA p) T)) ((w.heap.size, p) :: L) E := (h.alloc _).cons (PoolAt.made rfl)
/-- A pool's block, made for one pool, then another one is stored. -/
theorem SG.put (h : SG W w L E) {T : TypeId} (p q : Pl) (hE : ∀ x, x ∈ E → 0 < x.2.1) : SG W ((w.alloc (.cells (PA p) T)).setCells w.heap.size 0 (PA q).toList) ((w.heap.size, q) :: L) E :=
  (SG.sets (h.alloc _) (SG.ne h) (SG.neE h hE) h.2.2.size).cons ((PoolAt.made rfl).whole q)
theorem sg_new {T : TypeId} : PoolAt (w.alloc (.cells (PA zPl) T)) w.heap.size zPl := PoolAt.made rfl
theorem sg_newH {T : TypeId} (h : SG W (w.alloc (.cells (PA zPl) T)) L E) : PoolAt (w.alloc (.cells (PA zPl) T)) w.heap.size zPl := PoolAt.made rfl
theorem sg_newHD {T : TypeId} (h : SG W (w.alloc (.cells (PA zPl) T)).drew L E) : PoolAt (w.alloc (.cells (PA zPl) T)).drew w.heap.size zPl := (PoolAt.made rfl).drew
theorem sg_newD {T : TypeId} : PoolAt (w.alloc (.cells (PA zPl) T)).drew w.heap.size zPl := (PoolAt.made rfl).drew
theorem sg_newD2 {T : TypeId} : PoolAt (w.drew.alloc (.cells (PA zPl) T)) w.heap.size zPl := PoolAt.made rfl
end
theorem q_rot (p : Pl) (k : Ky) : apR p ⟨6, 0, 0, 0, 0, k⟩ = (nxP p ⟨6, 0, 0, 0, 0, k⟩, 0) := by
  have hk : chk ⟨6, 0, 0, 0, 0, k⟩ = 0 := by rw [chk_r]; rfl
  unfold apR
  rw [if_pos hk]
  rfl
theorem enc_cells (e : En) (j : Nat) (hj : j < 7) : enc e j = [Value.int .i64 e.k, .int .i64 e.s, .int .i64 e.a, .int .i64 e.p, .int .i64 e.w, .int .u64 e.y.a, .int .u64 e.y.b][j]'(by simpa using hj) := by
  rcases j with _ | _ | _ | _ | _ | _ | _ | j
  · rfl
  · rfl
  · rfl
  · rfl
  · rfl
  · rfl
  · rfl
  · omega
/-- The pool's ring, by value. -/
theorem PoolAt.ringA {w : World} {b : Nat} {p : Pl} (h : PoolAt w b p) : (Instr.loadAt 31 (.pointer (some ⟨b, 323, none⟩))).run Tryd.prog w = .ok (.agg #[.int .i64 p.r.e, .int .u64 p.r.p.a, .int .u64 p.r.p.b, .int .u64 p.r.c.a, .int .u64 p.r.c.b, .int .u64 p.r.n.a, .int .u64 p.r.n.b]) w := h.loadR
def enL (e : En) : List Value := [.int .i64 e.k, .int .i64 e.s, .int .i64 e.a, .int .i64 e.p, .int .i64 e.w, .int .u64 e.y.a, .int .u64 e.y.b]
def zEn : En := ⟨0, 0, 0, 0, 0, zKy⟩
def gl (l : List En) (j : Nat) : En := l.getD j zEn
theorem enL_at (e : En) (j : Nat) (hj : j < 7) : (enL e)[j]? = some (enc e j) := by
  rcases j with _ | _ | _ | _ | _ | _ | _ | j
  · rfl
  · rfl
  · rfl
  · rfl
  · rfl
  · rfl
  · rfl
  · omega
theorem flat_at : ∀ (l : List En) (j : Nat), j < l.length * 7 → (l.flatMap enL)[j]? = some (enc (gl l (j / 7)) (j % 7))
  | [], j, h => absurd h (by simp)
  | e :: l, j, h => by
    rw [List.flatMap_cons]
    by_cases h7 : j < 7
    · rw [List.getElem?_append_left (by simpa [enL] using h7), enL_at e j h7, show j / 7 = 0 by omega, show j % 7 = j by omega]
      rfl
    · rw [List.getElem?_append_right (by simp [enL]; omega)]
      have h2 := flat_at l (j - (enL e).length) (by simp only [List.length_cons] at h; simp [enL]; omega)
      rw [h2]
      have e1 : (enL e).length = 7 := rfl
      rw [e1, show j / 7 = (j - 7) / 7 + 1 by omega, show (j - 7) % 7 = j % 7 by omega]
      rfl
theorem se_made {w : World} (l : List En) {b : Nat} (hb : w.heap.size = b) {T : TypeId} : Se (w.alloc (.cells (l.flatMap enL).toArray T)) (some ⟨b, 0, none⟩) l.length (gl l) := by
  have C := Ce.made (w := w) (l := l.flatMap enL) (T := T) (g := b) hb
  refine Sl.mk C.1 (fun j hj => ?_)
  rw [Nat.zero_add]
  exact C.2.1 j _ (flat_at l j hj)
end Go.Proofs.YtljgcffpijjliaaDoor
