/- Blocks of cells told by a function; what changes in some blocks alone. -/
import Derived.Test.YtppcanaelagfmaaPolSh
import Derived.Test.YtppcanaelagfmaaPolRow
import Derived.Deep.Upon
namespace Go.Proofs.Ytppcanaelagfmaa
set_option linter.unusedVariables false
set_option linter.unusedSimpArgs false
open Go.RowKit Go.ChangeShapes Go.WideShapes Go.ChangeAt

def FL (n : Nat) (f : Nat → Value) : List Value := (List.range n).map f
def FA (n : Nat) (f : Nat → Value) : Array Value := (FL n f).toArray
theorem fl_len (n : Nat) (f : Nat → Value) : (FL n f).length = n := by unfold FL; simp
theorem fa_size (n : Nat) (f : Nat → Value) : (FA n f).size = n := by unfold FA; simp [fl_len]
theorem fl_at {n : Nat} (f : Nat → Value) {j : Nat} (h : j < n) : (FL n f)[j]? = some (f j) := by unfold FL; simp [h]
theorem fa_one {n : Nat} {f : Nat → Value} (h : ∀ j, (f j).oneCell' = true) : (FA n f).all (·.oneCell') = true := by
  unfold FA
  refine all_oneCell_toArray fun v hv => ?_
  unfold FL at hv
  simp only [List.mem_map] at hv
  obtain ⟨j, _, rfl⟩ := hv
  exact h j
/-- Block b's first n cells are told by f; they may be written. -/
def Fb (w : World) (b n : Nat) (f : Nat → Value) : Prop := b < w.heap.size ∧ (∀ j, j < n → w.cell? ⟨b, j, none⟩ = some (f j)) ∧ ∀ j, w.frozen? ⟨b, j, none⟩ = false
def patch (f : Nat → Value) (o k : Nat) (g : Nat → Value) (j : Nat) : Value := if o ≤ j ∧ j < o + k then g (j - o) else f j
theorem lt_of_same {w w' : World} {b : Nat} (h : b < w.heap.size) (e : w'.heap[b]? = w.heap[b]?) : b < w'.heap.size := by
  rcases Nat.lt_or_ge b w'.heap.size with h2 | h2
  · exact h2
  · rw [Array.getElem?_eq_none h2, Array.getElem?_eq_getElem h] at e; cases e
section
variable {w w' : World} {b n : Nat} {f g : Nat → Value}
theorem Fb.same (h : Fb w b n f) (e : w'.heap[b]? = w.heap[b]?) : Fb w' b n f :=
  ⟨lt_of_same h.1 e, fun j hj => (World.cell?_of_block (a := ⟨b, j, none⟩) e).trans (h.2.1 j hj), fun j => (World.frozen?_of_block (a := ⟨b, j, none⟩) e).trans (h.2.2 j)⟩
theorem Fb.below (h : Fb w b n f) (hb : Below w.heap.size w w') : Fb w' b n f := h.same (hb.block b h.1)
theorem Fb.alloc (h : Fb w b n f) (o : Obj) : Fb (w.alloc o) b n f := h.below ((Below.refl _ _).alloc (Nat.le_refl _) o)
theorem Fb.drewN (h : Fb w b n f) (k : Nat) : Fb (w.drewN k) b n f := h
theorem Fb.drew (h : Fb w b n f) : Fb w.drew b n f := h
theorem Fb.as (h : Fb w b n f) (hg : ∀ j, j < n → f j = g j) : Fb w b n g := ⟨h.1, fun j hj => by rw [h.2.1 j hj, hg j hj], h.2.2⟩
theorem Fb.made {T : TypeId} {x : Nat} (hx : w.heap.size = x) : Fb (w.alloc (.cells (FA n f) T)) x n f := by
  subst hx
  have h : (w.alloc (.cells (FA n f) T)).heap[w.heap.size]? = some (.cells (FA n f) T (0, 0)) := heap_alloc_new w _
  refine ⟨by simp, fun j hj => ?_, fun j => frozen_of_row _ _ _ _ _ h⟩
  rw [cell_of_row _ w.heap.size j _ T (0, 0) h]
  unfold FA
  rw [List.getElem?_toArray, fl_at f hj]
theorem Fb.other (h : Fb w b n f) {c o : Nat} {vs : List Value} (hne : c ≠ b) : Fb (w.setCells c o vs) b n f :=
  ⟨by rw [size_setCells]; exact h.1, fun i hi => by rw [World.cell?_setCells_out c vs o w _ (fun e _ => absurd e.symm hne)]; exact h.2.1 i hi, fun i => by rw [World.frozen?_setCells]; exact h.2.2 i⟩
theorem Fb.set (h : Fb w b n f) (o k : Nat) (g : Nat → Value) (ho : o + k ≤ n) : Fb (w.setCells b o (FL k g)) b n (patch f o k g) := by
  refine ⟨by rw [size_setCells]; exact h.1, fun j hj => ?_, fun i => by rw [World.frozen?_setCells]; exact h.2.2 i⟩
  unfold patch
  by_cases hjo : o ≤ j ∧ j < o + k
  · rw [if_pos hjo]
    have := World.cell?_setCells_in b (FL k g) o w (fun i hi => by rw [fl_len] at hi; rw [h.2.1 (o + i) (by omega)]; rfl) (j - o) (by rw [fl_len]; omega)
    rw [show o + (j - o) = j by omega] at this
    rw [this]
    have h3 := fl_at g (show j - o < k by omega)
    rw [List.getElem?_eq_getElem (by rw [fl_len]; omega)] at h3
    exact h3
  · rw [if_neg hjo, World.cell?_setCells_out b (FL k g) o w _ (fun _ _ => by rw [fl_len] at *; simp only; omega), h.2.1 j hj]
theorem Fb.set1 (h : Fb w b n f) (o : Nat) (v : Value) (ho : o < n) : Fb (w.setCell ⟨b, o, none⟩ v) b n (patch f o 1 fun _ => v) := h.set o 1 (fun _ => v) ho
theorem Fb.load {T : TypeId} {d : TypeDesc} (h : Fb w b n f) (o k : Nat) (g : Nat → Value) (hok : o + k ≤ n) (hg : ∀ j, j < k → f (o + j) = g j) (hu : Try.prog.underlying T = some d) (hd : d.isRow = true) (hi : (Try.prog.info? T).map (·.size) = some k) :
    (Instr.loadAt T (.pointer (some ⟨b, o, none⟩))).run Try.prog w = .ok (.agg (FA k g)) w := by
  refine run_loadAt_mid w b o T (FL k g) _ (fun j v hj => ?_) hu hd (by rw [fl_len]; exact hi)
  have hl : j < k := by
    have := (List.getElem?_eq_some_iff.1 hj).1
    rwa [fl_len] at this
  rw [fl_at g hl] at hj
  rw [h.2.1 (o + j) (by omega), hg j hl, hj]
theorem Fb.loadV {T : TypeId} {d : TypeDesc} (h : Fb w b n f) (o k : Nat) (g : Nat → Value) (hok : o + k ≤ n) (hg : ∀ j, j < k → f (o + j) = g j) (hu : Try.prog.underlying T = some d) (hd : d.isRow = true) (hi : (Try.prog.info? T).map (·.size) = some k) :
    (loadVar T ⟨b, o, none⟩).run Try.prog w = .ok (.agg (FA k g)) w := by
  refine run_loadVar_mid w b o T (FL k g) _ (fun j v hj => ?_) hu hd (by rw [fl_len]; exact hi)
  have hl : j < k := by
    have := (List.getElem?_eq_some_iff.1 hj).1
    rwa [fl_len] at this
  rw [fl_at g hl] at hj
  rw [h.2.1 (o + j) (by omega), hg j hl, hj]
theorem Fb.store {T : TypeId} (h : Fb w b n f) (o k : Nat) (g : Nat → Value) (hok : o + k ≤ n) (hi : (Try.prog.info? T).map (·.size) = some k) (h1 : ∀ j, (g j).oneCell' = true) :
    (Instr.storeAt T (.pointer (some ⟨b, o, none⟩)) (.agg (FA k g))).run Try.prog w = .ok () (w.setCells b o (FL k g)) := by
  refine run_storeAt_mid w b o T (FA k g) (fun j hj => ?_) (by rw [fa_size]; exact hi) (fa_one h1)
  rw [fa_size] at hj
  rw [h.2.1 (o + j) (by omega)]
  exact ⟨rfl, h.2.2 _⟩
theorem Fb.sl (h : Fb w b n f) : Sl w (some ⟨b, 0, none⟩) n f := Sl.mk h.1 fun j hj => by rw [Nat.zero_add]; exact h.2.1 j hj
theorem Fb.ce (h : Fb w b n f) {l : List Value} (hl : ∀ j v, l[j]? = some v → j < n ∧ f j = v) : Ce w b l := ⟨h.1, fun j v hj => by obtain ⟨h1, h2⟩ := hl j v hj; rw [h.2.1 j h1, h2], h.2.2⟩
end
/-- All is as it was, but in these blocks, and new ones. -/
def Ch (S : List Nat) (w w' : World) : Prop := (w'.os = w.os ∧ w'.tape = w.tape ∧ w'.output = w.output) ∧ w.heap.size ≤ w'.heap.size ∧ ∀ k, k < w.heap.size → k ∉ S → w'.heap[k]? = w.heap[k]?
section
variable {w w' w2 : World} {S : List Nat}
theorem Ch.refl (S : List Nat) (w : World) : Ch S w w := ⟨⟨rfl, rfl, rfl⟩, Nat.le_refl _, fun _ _ _ => rfl⟩
theorem Ch.trans (h : Ch S w w') (k : Ch S w' w2) : Ch S w w2 :=
  ⟨⟨k.1.1.trans h.1.1, k.1.2.1.trans h.1.2.1, k.1.2.2.trans h.1.2.2⟩, Nat.le_trans h.2.1 k.2.1, fun i hi hs => (k.2.2 i (Nat.lt_of_lt_of_le hi h.2.1) hs).trans (h.2.2 i hi hs)⟩
theorem Ch.of_below (h : Below w.heap.size w w') : Ch S w w' := ⟨⟨h.os, h.tape, h.output⟩, h.size, fun k hk _ => h.block k hk⟩
theorem Ch.step {T : List Nat} (h : Ch S w w') (k : Ch T w' w2) (hT : ∀ i, i ∈ T → i ∈ S ∨ w.heap.size ≤ i) : Ch S w w2 :=
  ⟨⟨k.1.1.trans h.1.1, k.1.2.1.trans h.1.2.1, k.1.2.2.trans h.1.2.2⟩, Nat.le_trans h.2.1 k.2.1, fun i hi hs => (k.2.2 i (Nat.lt_of_lt_of_le hi h.2.1) (fun hm => by rcases hT i hm with h1 | h1; exact hs h1; omega)).trans (h.2.2 i hi hs)⟩
theorem Ch.then (h : Ch S w w') (k : Below w'.heap.size w' w2) : Ch S w w2 := h.trans (.of_below k)
theorem Ch.drewN (h : Ch S w w') (k : Nat) : Ch S w (w'.drewN k) := h
theorem Ch.drew (h : Ch S w w') : Ch S w w'.drew := h
theorem Ch.alloc (h : Ch S w w') (o : Obj) : Ch S w (w'.alloc o) := h.then ((Below.refl _ _).alloc (Nat.le_refl _) o)
theorem Ch.below {B : Nat} (h : Ch S w w') (hS : ∀ k, k ∈ S → B ≤ k) (hB : B ≤ w.heap.size) : Below B w w' :=
  ⟨h.1.1, h.1.2.1, h.1.2.2, h.2.1, fun k hk => h.2.2 k (by omega) (fun hs => by have := hS k hs; omega)⟩
theorem Ch.mono {S2 : List Nat} (h : Ch S w w') (hS : ∀ k, k ∈ S → k ∈ S2 ∨ w.heap.size ≤ k) : Ch S2 w w' :=
  ⟨h.1, h.2.1, fun k hk hs => h.2.2 k hk (fun hm => by rcases hS k hm with h1 | h1; exact hs h1; omega)⟩
theorem Ch.sets (h : Ch S w w') {c o : Nat} {vs : List Value} (hc : c ∈ S ∨ w.heap.size ≤ c) : Ch S w (w'.setCells c o vs) := by
  have k := keeps_setCells c vs o w' c (Nat.le_refl _)
  refine ⟨⟨k.os.trans h.1.1, k.tape.trans h.1.2.1, k.output.trans h.1.2.2⟩, by rw [size_setCells]; exact h.2.1, fun i hi hs => ?_⟩
  have hne : i ≠ c := fun e => by subst e; rcases hc with h1 | h1; exact hs h1; omega
  rw [World.heap_setCells_other w' c o vs (Nat.lt_of_lt_of_le hi h.2.1) hne]
  exact h.2.2 i hi hs
theorem Ch.set1 (h : Ch S w w') {c o : Nat} {v : Value} (hc : c ∈ S ∨ w.heap.size ≤ c) : Ch S w (w'.setCell ⟨c, o, none⟩ v) := h.sets (vs := [v]) hc
theorem Ch.grown (h : Ch S w w') {row : Option Nat} (hg : w'.grownBy w2 row) (hr : ∀ c, row = some c → c ∈ S ∨ w.heap.size ≤ c) : Ch S w w2 := by
  refine ⟨⟨hg.os.trans h.1.1, hg.tape.trans h.1.2.1, hg.output.trans h.1.2.2⟩, Nat.le_trans h.2.1 hg.size, fun i hi hs => ?_⟩
  rw [hg.block i (Nat.lt_of_lt_of_le hi h.2.1) (fun e => by rcases hr i e.symm with h1 | h1; exact hs h1; omega)]
  exact h.2.2 i hi hs
theorem Ch.fb (h : Ch S w w') {b n : Nat} {f : Nat → Value} (hf : Fb w b n f) (hb : b ∉ S) : Fb w' b n f := hf.same (h.2.2 b hf.1 hb)
theorem Ch.pool (h : Ch S w w') {b : Nat} {p : Pl} (hf : PoolAt w b p) (hb : b ∉ S) : PoolAt w' b p := Fb.same (n := 330) (f := pc p) hf (h.2.2 b hf.1 hb)
theorem Ch.ce (h : Ch S w w') {b : Nat} {l : List Value} (hf : Ce w b l) (hb : b ∉ S) : Ce w' b l :=
  have e := h.2.2 b hf.1 hb
  ⟨lt_of_same hf.1 e, fun j v hj => (World.cell?_of_block (a := ⟨b, j, none⟩) e).trans (hf.2.1 j v hj), fun j => (World.frozen?_of_block (a := ⟨b, j, none⟩) e).trans (hf.2.2 j)⟩
theorem Ch.sl (h : Ch S w w') {A : Option Addr} {n : Nat} {f : Nat → Value} (hf : Sl w A n f) (hA : ∀ ad, A = some ad → 0 < n → ad.block ∉ S) : Sl w' A n f := by
  intro hn
  obtain ⟨b, off, rfl, hlt, hc⟩ := hf hn
  have e := h.2.2 b hlt (hA _ rfl hn)
  exact ⟨b, off, rfl, lt_of_same hlt e, fun j hj => (World.cell?_of_block (a := ⟨b, off + j, none⟩) e).trans (hc j hj)⟩
theorem Ch.ow (h : Ch S w w') {B n size : Nat} {e : TypeId} {v : Value} {f : Nat → Value} (hf : Ow w B e size v n f) (hv : ∀ k, v.ownBlock = some k → k ∉ S) : Ow w' B e size v n f := by
  refine ⟨hf.1, ?_⟩
  rcases hf.2 with hn | ⟨g, cap, cur, rfl, hb, hgg, rest⟩
  · exact .inl hn
  · refine .inr ⟨g, cap, cur, rfl, hb, ?_, rest⟩
    rw [h.2.2 g (Array.getElem?_eq_some_iff.1 hgg).1 (hv g rfl)]
    exact hgg
end
end Go.Proofs.Ytppcanaelagfmaa
