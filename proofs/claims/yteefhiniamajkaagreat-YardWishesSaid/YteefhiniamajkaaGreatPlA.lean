/- Small blocks, cell by cell, as things. -/
import Derived.Test.YteefhiniamajkaaGreatGh
import Derived.BigQuiet
import Derived.Deep.RegionHeld3
import Derived.Deep.Cut
import Derived.IntWalk
namespace Go.Proofs.YteefhiniamajkaaGreat
set_option linter.unusedVariables false
set_option linter.unusedSimpArgs false
open Go.RowKit Go.ChangeShapes Go.WideShapes Go.ChangeAt
set_option maxRecDepth 100000
theorem Ce.load_ {w : World} {b : Nat} {l : List Value} {T : TypeId} {d : TypeDesc} (h : Ce w b l) (hu : Tryz.prog.underlying T = some d) (hd : d.isRow = true) (hi : (Tryz.prog.info? T).map (·.size) = some l.length) : (Instr.loadAt T (.pointer (some ⟨b, 0, none⟩))).run Tryz.prog w = .ok (.agg l.toArray) w :=
  run_loadAt_mid w b 0 T l _ (fun j v hj => by rw [Nat.zero_add]; exact h.2.1 j v hj) hu hd hi
theorem Ce.store_ {w : World} {b : Nat} {l : List Value} {T : TypeId} (h : Ce w b l) (vs : List Value) (hl : vs.length = l.length) (hi : (Tryz.prog.info? T).map (·.size) = some vs.length) (h1 : vs.all (·.oneCell') = true) :
    (Instr.storeAt T (.pointer (some ⟨b, 0, none⟩)) (.agg vs.toArray)).run Tryz.prog w = .ok () (w.setCells b 0 vs) ∧ Ce (w.setCells b 0 vs) b vs := by
  have hc : ∀ j, j < vs.length → ∃ v, w.cell? ⟨b, j, none⟩ = some v := fun j hj => ⟨l[j]'(by omega), h.2.1 j _ (List.getElem?_eq_getElem (by omega))⟩
  refine ⟨run_storeAt_mid w b 0 T vs.toArray (fun j hj => ?_) (by simpa using hi) (by simpa using h1), by rw [size_setCells]; exact h.1, fun j v hj => ?_, fun i => by rw [World.frozen?_setCells]; exact h.2.2 i⟩
  · obtain ⟨v, hv⟩ := hc j (by simpa using hj)
    rw [Nat.zero_add, hv]
    exact ⟨rfl, h.2.2 _⟩
  · have hj' := (List.getElem?_eq_some_iff.1 hj).1
    have := World.cell?_setCells_in b vs 0 w (fun i hi => by obtain ⟨v, hv⟩ := hc i hi; rw [Nat.zero_add, hv]; rfl) j hj'
    rw [Nat.zero_add] at this
    rw [this]
    exact (List.getElem?_eq_getElem hj').symm.trans hj
theorem results_C {w : World} {fn : Func} {r : Tmp} {T : TypeId} {d : TypeDesc} {b : Nat} {l : List Value} (h : fn.results = #[.cell r T]) (tmps : Array Value) (hp : tmps.getD r undef = .pointer (some ⟨b, 0, none⟩)) (hC : Ce w b l) (hu : Tryz.prog.underlying T = some d) (hd : d.isRow = true) (hi : (Tryz.prog.info? T).map (·.size) = some l.length) :
    (results fn tmps).run Tryz.prog w = .ok (.agg l.toArray) w := by
  have hp' : tmps[r]?.getD undef = .pointer (some ⟨b, 0, none⟩) := by simpa using hp
  have hl : (loadVar T ⟨b, 0, none⟩).run Tryz.prog w = .ok (.agg l.toArray) w := run_loadVar_mid w b 0 T l _ (fun j v hj => by rw [Nat.zero_add]; exact hC.2.1 j v hj) hu hd hi
  simp [results, h, hp', asAddr, hl]
theorem then_norm {K : Act → World → Prop} {Q : Exit → Act → World → Prop} {a : Act} {w : World} (h : K a w) : Exit.then K Q .normal a w := h
section
variable {S : List Nat} {W w : World} {L A B : List Th} {Q : Exit → Act → World → Prop} {o : Oper} {a : Act} {K : Act → World → Prop}
theorem ow_allocC {T : TypeId} {l : List Value} (ho : o.op = .alloc T) (hz : (zeroValue T).run Tryz.prog w = .ok (.agg l.toArray) w) (hn : l.toArray = #[] → False) (hS : HS S W w L)
    (h : ∀ U w', HS S W w' (thC U l :: L) → w.heap.size ≤ U → K (a.put o.dst (.pointer (some ⟨U, 0, none⟩))) w') : o.wp Tryz.prog a w K Q := by
  refine ow_val (w' := w.alloc (.cells l.toArray T)) ?_ (h _ _ (hS.cells l) (Nat.le_refl _))
  have h2 : (l.toArray = #[]) = False := eq_false hn
  unfold execOp
  simp only [ho]
  go_simp
theorem ow_boxC {T : TypeId} {x : Operand} {l : List Value} (ho : o.op = .box T x) (hx : a.eval x = .agg l.toArray) (hn : l.toArray = #[] → False) (hS : HS S W w L)
    (h : ∀ U w', HS S W w' (thC U l :: L) → w.heap.size ≤ U → K (a.put o.dst (.pointer (some ⟨U, 0, none⟩))) w') : o.wp Tryz.prog a w K Q := by
  refine ow_val (w' := w.alloc (.cells l.toArray T)) ?_ (h _ _ (hS.cells l) (Nat.le_refl _))
  have h2 : (l.toArray = #[]) = False := eq_false hn
  unfold execOp
  simp only [ho, hx]
  go_simp
theorem ow_storeC {T : TypeId} {x y : Operand} {b : Nat} {l : List Value} (vs : List Value) (ho : o.op = .store T x y) (hx : a.eval x = .pointer (some ⟨b, 0, none⟩)) (hy : a.eval y = .agg vs.toArray) (hS : HS S W w (A ++ thC b l :: B)) (hl : vs.length = l.length) (hi : (Tryz.prog.info? T).map (·.size) = some vs.length) (h1 : vs.all (·.oneCell') = true)
    (h : ∀ w', HS S W w' (A ++ thC b vs :: B) → K (a.put o.dst undef) w') : o.wp Tryz.prog a w K Q :=
  have hC : Ce w b l := hS.1 (thC b l) (by simp)
  have hs := hC.store_ vs hl hi h1
  ov_store ho hx hy hs.1 (h _ (hS.upd (thC b vs) rfl ((Ch.refl _ _).sets (.inl (by simp [thC]))) hs.2))
end
theorem Ce.c2 {w : World} {b : Nat} {x y : Value} (h : Ce w b [x, y]) : w.cell? ⟨b, 0, none⟩ = some x ∧ w.cell? ⟨b, 1, none⟩ = some y := ⟨h.2.1 0 _ rfl, h.2.1 1 _ rfl⟩
theorem Ce.c4 {w : World} {b : Nat} {x y z u : Value} (h : Ce w b [x, y, z, u]) : w.cell? ⟨b, 0, none⟩ = some x ∧ w.cell? ⟨b, 1, none⟩ = some y ∧ w.cell? ⟨b, 2, none⟩ = some z ∧ w.cell? ⟨b, 3, none⟩ = some u := ⟨h.2.1 0 _ rfl, h.2.1 1 _ rfl, h.2.1 2 _ rfl, h.2.1 3 _ rfl⟩
theorem Ce.c13 {w : World} {b : Nat} {v0 v1 v2 v3 v4 v5 v6 v7 v8 v9 v10 v11 v12 : Value} (h : Ce w b [v0, v1, v2, v3, v4, v5, v6, v7, v8, v9, v10, v11, v12]) : w.cell? ⟨b, 0, none⟩ = some v0 ∧ w.cell? ⟨b, 1, none⟩ = some v1 ∧ w.cell? ⟨b, 2, none⟩ = some v2 ∧ w.cell? ⟨b, 3, none⟩ = some v3 ∧ w.cell? ⟨b, 4, none⟩ = some v4 ∧ w.cell? ⟨b, 5, none⟩ = some v5 ∧ w.cell? ⟨b, 6, none⟩ = some v6 ∧ w.cell? ⟨b, 7, none⟩ = some v7 ∧ w.cell? ⟨b, 8, none⟩ = some v8 ∧ w.cell? ⟨b, 9, none⟩ = some v9 ∧ w.cell? ⟨b, 10, none⟩ = some v10 ∧ w.cell? ⟨b, 11, none⟩ = some v11 ∧ w.cell? ⟨b, 12, none⟩ = some v12 := ⟨h.2.1 0 _ rfl, h.2.1 1 _ rfl, h.2.1 2 _ rfl, h.2.1 3 _ rfl, h.2.1 4 _ rfl, h.2.1 5 _ rfl, h.2.1 6 _ rfl, h.2.1 7 _ rfl, h.2.1 8 _ rfl, h.2.1 9 _ rfl, h.2.1 10 _ rfl, h.2.1 11 _ rfl, h.2.1 12 _ rfl⟩
end Go.Proofs.YteefhiniamajkaaGreat
