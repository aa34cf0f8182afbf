/- Arrays of numbers, in blocks and as values. -/
import Derived.Test.YtejlfbiehcfbgaaPolWl
import Derived.Test.YtejlfbiehcfbgaaWhlMath
import Derived.Test.YtejlfbiehcfbgaaSipWords
import Derived.BigQuiet
import Derived.Deep.RegionHeld3
import Derived.Deep.Cut
namespace Go.Proofs.Ytejlfbiehcfbgaa
set_option linter.unusedVariables false
set_option linter.unusedSimpArgs false
open Go.RowKit Go.ChangeShapes Go.WideShapes Go.ChangeAt

def il (n : Nat) (f : Nat → Int) : List Value := (List.range n).map fun j => .int .i64 (f j)
def ia (n : Nat) (f : Nat → Int) : Array Value := (il n f).toArray
theorem il_len (n : Nat) (f : Nat → Int) : (il n f).length = n := by unfold il; simp
theorem ia_size (n : Nat) (f : Nat → Int) : (ia n f).size = n := by unfold ia; simp [il_len]
theorem il_at (n : Nat) (f : Nat → Int) (j : Nat) (h : j < n) : (il n f)[j]? = some (.int .i64 (f j)) := by unfold il; simp [h]
theorem ia_at (n : Nat) (f : Nat → Int) (j : Nat) (h : j < n) : (ia n f)[j]? = some (.int .i64 (f j)) := by unfold ia; simp [il_at n f j h]
theorem ia_one (n : Nat) (f : Nat → Int) : (ia n f).all (·.oneCell') = true := by
  unfold ia
  refine all_oneCell_toArray fun v hv => ?_
  unfold il at hv
  simp only [List.mem_map] at hv
  obtain ⟨j, _, rfl⟩ := hv
  rfl
theorem il_ext {n : Nat} {f g : Nat → Int} (h : ∀ j, j < n → f j = g j) : il n f = il n g := by
  unfold il
  exact List.map_congr_left fun j hj => by rw [h j (by simpa using hj)]
/-- Block b is n numbers, that may be written. -/
def IA (w : World) (b n : Nat) (f : Nat → Int) : Prop := b < w.heap.size ∧ (∀ j, j < n → w.cell? ⟨b, j, none⟩ = some (.int .i64 (f j))) ∧ ∀ j, w.frozen? ⟨b, j, none⟩ = false
theorem grown_drew (w : World) (row : Option Nat) : w.grownBy w.drew row := ⟨rfl, rfl, rfl, Nat.le_refl _, fun _ _ _ => rfl⟩
theorem grown_drewN (w : World) (k : Nat) (row : Option Nat) : w.grownBy (w.drewN k) row := ⟨rfl, rfl, rfl, Nat.le_refl _, fun _ _ _ => rfl⟩
section
variable {w w' : World} {b n : Nat} {f g : Nat → Int}
theorem IA.below (h : IA w b n f) (hb : Below w.heap.size w w') : IA w' b n f :=
  ⟨Nat.lt_of_lt_of_le h.1 hb.size, fun j hj => (hb.cell (p := ⟨b, j, none⟩) h.1).trans (h.2.1 j hj), fun j => (World.frozen?_of_block (a := ⟨b, j, none⟩) (hb.block b h.1)).trans (h.2.2 j)⟩
theorem IA.alloc (h : IA w b n f) (o : Obj) : IA (w.alloc o) b n f := h.below ((Below.refl _ _).alloc (Nat.le_refl _) o)
theorem IA.drew (h : IA w b n f) : IA w.drew b n f := h
theorem IA.drewN (h : IA w b n f) (k : Nat) : IA (w.drewN k) b n f := h
theorem IA.grown {row : Option Nat} (h : IA w b n f) (hg : w.grownBy w' row) (hne : row ≠ some b) : IA w' b n f :=
  have hb := hg.block b h.1 (fun e => hne e.symm)
  ⟨Nat.lt_of_lt_of_le h.1 hg.size, fun j hj => (World.cell?_of_block (a := ⟨b, j, none⟩) hb).trans (h.2.1 j hj), fun j => (World.frozen?_of_block (a := ⟨b, j, none⟩) hb).trans (h.2.2 j)⟩
theorem IA.as_ (h : IA w b n f) (hf : ∀ j, j < n → f j = g j) : IA w b n g := ⟨h.1, fun j hj => by rw [h.2.1 j hj, hf j hj], h.2.2⟩
theorem IA.made {T : TypeId} {d : Nat} (hd : w.heap.size = d) : IA (w.alloc (.cells (ia n f) T)) d n f := by
  subst hd
  have h : (w.alloc (.cells (ia n f) T)).heap[w.heap.size]? = some (.cells (ia n f) T (0, 0)) := heap_alloc_new w _
  refine ⟨by simp, fun j hj => ?_, fun j => frozen_of_row _ _ _ _ _ h⟩
  rw [cell_of_row _ w.heap.size j _ T (0, 0) h, ia_at n f j hj]
theorem IA.other (h : IA w b n f) {c j : Nat} {v : Value} (hne : c ≠ b) : IA (w.setCell ⟨c, j, none⟩ v) b n f :=
  ⟨by simpa using h.1, fun i hi => by rw [World.cell?_setCell_other _ _ _ _ (fun e => hne (by cases e; rfl))]; exact h.2.1 i hi, fun i => by rw [World.frozen?_setCell]; exact h.2.2 i⟩
theorem IA.others (h : IA w b n f) {c o : Nat} {vs : List Value} (hne : c ≠ b) (hn : 0 < n) : IA (w.setCells c o vs) b n f := by
  refine ⟨?_, fun i hi => ?_, fun i => by rw [World.frozen?_setCells]; exact h.2.2 i⟩
  · have h2 : (w.setCells c o vs).cell? ⟨b, 0, none⟩ = some (.int .i64 (f 0)) := by rw [World.cell?_setCells_out c vs o w _ (fun e _ => absurd e.symm hne)]; exact h.2.1 0 hn
    exact World.block_lt_of_cell? _ _ h2
  · rw [World.cell?_setCells_out c vs o w _ (fun e _ => absurd e.symm hne)]; exact h.2.1 i hi
/-- One number is written. -/
theorem IA.set (h : IA w b n f) (j : Nat) (hj : j < n) (x : Int) : IA (w.setCell ⟨b, j, none⟩ (.int .i64 x)) b n (putW f j x) := by
  refine ⟨by simpa using h.1, fun i hi => ?_, fun i => by rw [World.frozen?_setCell]; exact h.2.2 i⟩
  unfold putW
  by_cases e : i = j
  · subst e
    rw [if_pos rfl]
    exact World.cell?_setCell_same _ _ _ (h.2.1 i hi)
  · rw [if_neg e, World.cell?_setCell_other _ _ _ _ (fun x => e (by injection x with _ x; exact x.symm))]
    exact h.2.1 i hi
theorem IA.whole (h : IA w b n f) (g : Nat → Int) (hn : 0 < n) : IA (w.setCells b 0 (ia n g).toList) b n g := by
  have e : (ia n g).toList = il n g := rfl
  rw [e]
  have hc : ∀ j, j < n → (w.setCells b 0 (il n g)).cell? ⟨b, j, none⟩ = some (.int .i64 (g j)) := by
    intro j hj
    have := World.cell?_setCells_in b (il n g) 0 w (fun i hi => by rw [Nat.zero_add, h.2.1 i (by rwa [il_len] at hi)]; rfl) j (by rw [il_len]; exact hj)
    rw [Nat.zero_add] at this
    rw [this]
    have h2 := il_at n g j hj
    rw [List.getElem?_eq_getElem (by rw [il_len]; exact hj)] at h2
    exact h2
  exact ⟨World.block_lt_of_cell? _ _ (hc 0 hn), hc, fun i => by rw [World.frozen?_setCells]; exact h.2.2 i⟩
theorem IA.load {T : TypeId} {d : TypeDesc} (h : IA w b n f) (hu : Try.prog.underlying T = some d) (hd : d.isRow = true) (hi : (Try.prog.info? T).map (·.size) = some n) :
    (Instr.loadAt T (.pointer (some ⟨b, 0, none⟩))).run Try.prog w = .ok (.agg (ia n f)) w := by
  refine run_loadAt_mid w b 0 T (il n f) d (fun j v hj => ?_) hu hd (by rw [il_len]; exact hi)
  have hl : j < n := by
    have := (List.getElem?_eq_some_iff.1 hj).1
    rwa [il_len] at this
  rw [il_at n f j hl] at hj
  rw [Nat.zero_add, h.2.1 j hl, hj]
theorem IA.store {T : TypeId} (h : IA w b n f) (g : Nat → Int) (hi : (Try.prog.info? T).map (·.size) = some n) :
    (Instr.storeAt T (.pointer (some ⟨b, 0, none⟩)) (.agg (ia n g))).run Try.prog w = .ok () (w.setCells b 0 (ia n g).toList) := by
  refine run_storeAt_mid w b 0 T (ia n g) (fun j hj => ?_) (by rw [ia_size]; exact hi) (ia_one n g)
  rw [ia_size] at hj
  rw [Nat.zero_add, h.2.1 j hj]
  exact ⟨rfl, h.2.2 j⟩
theorem IA.slice (h : IA w b n f) : Is w (some ⟨b, 0, none⟩) n f := fun h0 => ⟨b, 0, rfl, h.1, fun j hj => by rw [Nat.zero_add]; exact h.2.1 j hj⟩
end
theorem grown_set {w w' : World} {b j : Nat} {v : Value} (h : w.grownBy w' (some b)) : w.grownBy (w'.setCell ⟨b, j, none⟩ v) (some b) := by
  have hb := keeps_setCells b [v] j w' b (Nat.le_refl _)
  have hs : (w'.setCell ⟨b, j, none⟩ v).heap.size = w'.heap.size := by simp
  refine ⟨h.os, h.tape, h.output, by rw [hs]; exact h.size, fun k hk hne => ?_⟩
  have hkb : k ≠ b := fun e => hne (by rw [e])
  rw [← h.block k hk hne]
  exact Below.heap_setCell _ _ _ _ hkb
end Go.Proofs.Ytejlfbiehcfbgaa
