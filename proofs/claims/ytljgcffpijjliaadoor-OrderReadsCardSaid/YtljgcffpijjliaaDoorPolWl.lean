/- Operations of which it is known what they yield. -/
import Derived.Test.YtljgcffpijjliaaDoorPolChk3
import Derived.BigQuiet
import Derived.Deep.RegionHeld3
import Derived.Deep.Cut
namespace Go.Proofs.YtljgcffpijjliaaDoor
set_option linter.unusedVariables false
set_option linter.unusedSimpArgs false
open Go.RowKit Go.ChangeShapes Go.WideShapes Go.ChangeAt

section
variable {P : Program} {ops : Array Oper} {rest : List Oper} {Q : Exit → Act → World → Prop} {o : Oper} {a : Act} {w : World} {v : Value}
theorem wl_load {T : TypeId} {x : Operand} {A : Addr} (hw : Region.wanted o (yielded ops a.tmps) = true) (ho : o.op = .load T x) (hx : a.eval x = .pointer (some A)) (hl : (Instr.loadAt T (.pointer (some A))).run P w = .ok v w)
    (h : wpList P ops Q rest (a.put o.dst v) w) : wpList P ops Q (o :: rest) a w :=
  wl_val hw (by unfold execOp; simp only [ho, hx, Sem.run_bind, hl, Result.andThen_ok, Sem.run_pure]) h
theorem wl_index {T : TypeId} {x i : Operand} {u k : Value} (hw : Region.wanted o (yielded ops a.tmps) = true) (ho : o.op = .index T x i) (hx : a.eval x = u) (hi : a.eval i = k) (hl : (Instr.index T u k).run P w = .ok v w)
    (h : wpList P ops Q rest (a.put o.dst v) w) : wpList P ops Q (o :: rest) a w :=
  wl_val hw (by unfold execOp; simp only [ho, hx, hi, Sem.run_bind, hl, Result.andThen_ok, Sem.run_pure]) h
theorem wl_build {T : TypeId} {ps : Array (Nat × Operand)} {vs : Array (Nat × Value)} (hw : Region.wanted o (yielded ops a.tmps) = true) (ho : o.op = .build T ps) (hx : (ps.map fun (i, x) => (i, a.eval x)) = vs) (hl : (Instr.build T vs).run P w = .ok v w)
    (h : wpList P ops Q rest (a.put o.dst v) w) : wpList P ops Q (o :: rest) a w :=
  wl_val hw (by unfold execOp; simp only [ho, hx, Sem.run_bind, hl, Result.andThen_ok, Sem.run_pure]) h
theorem wl_store {T : TypeId} {x y : Operand} {A : Addr} {w' : World} (hw : Region.wanted o (yielded ops a.tmps) = true) (ho : o.op = .store T x y) (hx : a.eval x = .pointer (some A)) (hy : a.eval y = v) (hl : (Instr.storeAt T (.pointer (some A)) v).run P w = .ok () w')
    (h : wpList P ops Q rest (a.put o.dst undef) w') : wpList P ops Q (o :: rest) a w := by
  simp only [wpList]
  rw [if_pos hw]
  left
  unfold Oper.wp
  have he : (execOp a.eval o).run P w = .ok .skip w' := by
    unfold execOp
    simp only [ho, hx, hy, Sem.run_bind, hl, Result.andThen_ok, Sem.run_pure]
  rw [he]
  exact h
end
section
variable {P : Program} {Q : Exit → Act → World → Prop} {o : Oper} {a : Act} {w : World} {v : Value} {K : Act → World → Prop}
theorem ex_load {f : Operand → Value} {T : TypeId} {x : Operand} {A : Addr} (ho : o.op = .load T x) (hx : f x = .pointer (some A)) (hl : (Instr.loadAt T (.pointer (some A))).run P w = .ok v w) : (execOp f o).run P w = .ok (.value v) w := by
  unfold execOp; simp only [ho, hx, Sem.run_bind, hl, Result.andThen_ok, Sem.run_pure]
theorem ov_val (he : (execOp a.eval o).run P w = .ok (.value v) w) (h : K (a.put o.dst v) w) : o.wp P a w K Q := by
  unfold Oper.wp; rw [he]; exact h
theorem ov_store {T : TypeId} {x y : Operand} {A : Addr} {w' : World} (ho : o.op = .store T x y) (hx : a.eval x = .pointer (some A)) (hy : a.eval y = v) (hl : (Instr.storeAt T (.pointer (some A)) v).run P w = .ok () w') (h : K (a.put o.dst undef) w') : o.wp P a w K Q := by
  unfold Oper.wp
  have he : (execOp a.eval o).run P w = .ok .skip w' := by
    unfold execOp
    simp only [ho, hx, hy, Sem.run_bind, hl, Result.andThen_ok, Sem.run_pure]
  rw [he]
  exact h
end
section
variable {w : World} {b : Nat} {p : Pl}
theorem PoolAt.loadK (h : PoolAt w b p) (i : Nat) (hi : i < 64) : (Instr.loadAt 25 (.pointer (some ⟨b, 3 + i * 5, none⟩))).run Tryd.prog w = .ok (spV (p.s i)) w := by
  refine run_loadAt_mid w b (3 + i * 5) 25 [.int .i64 (p.s i).st, .int .i64 (p.s i).ad, .int .i64 (p.s i).po, .int .i64 (p.s i).we, .int .i64 (p.s i).si] _ (fun j v hj => ?_) Tryd.underlying25 rfl (by kernel_rfl)
  have hl : j < 5 := (List.getElem?_eq_some_iff.1 hj).1
  rw [h.cs i j hi hl, ← hj]
  rcases j with _ | _ | _ | _ | _ | j
  · rfl
  · rfl
  · rfl
  · rfl
  · rfl
  · omega
theorem PoolAt.loadR (h : PoolAt w b p) : (Instr.loadAt 31 (.pointer (some ⟨b, 323, none⟩))).run Tryd.prog w = .ok (rgV p.r) w := by
  refine run_loadAt_mid w b 323 31 [.int .i64 p.r.e, .int .u64 p.r.p.a, .int .u64 p.r.p.b, .int .u64 p.r.c.a, .int .u64 p.r.c.b, .int .u64 p.r.n.a, .int .u64 p.r.n.b] _ (fun j v hj => ?_) Tryd.underlying31 rfl (by kernel_rfl)
  have hl : j < 7 := (List.getElem?_eq_some_iff.1 hj).1
  rw [h.cr j hl, ← hj]
  rcases j with _ | _ | _ | _ | _ | _ | _ | j
  · rfl
  · rfl
  · rfl
  · rfl
  · rfl
  · rfl
  · rfl
  · omega
theorem PoolAt.storeK (h : PoolAt w b p) (i : Nat) (hi : i < 64) (s : Sp) : (Instr.storeAt 25 (.pointer (some ⟨b, 3 + i * 5, none⟩)) (spV s)).run Tryd.prog w = .ok () (w.setCells b (3 + i * 5) [.int .i64 s.st, .int .i64 s.ad, .int .i64 s.po, .int .i64 s.we, .int .i64 s.si]) := by
  refine run_storeAt_mid w b (3 + i * 5) 25 #[.int .i64 s.st, .int .i64 s.ad, .int .i64 s.po, .int .i64 s.we, .int .i64 s.si] (fun j hj => ?_) (by kernel_rfl) (all_oneCell_toArray (fun v hv => by simp at hv; rcases hv with rfl | rfl | rfl | rfl | rfl <;> rfl))
  have hl : j < 5 := hj
  rw [h.cs i j hi hl]
  exact ⟨rfl, h.2.2 _⟩
theorem PoolAt.storeR (h : PoolAt w b p) (r : Rg) : (Instr.storeAt 31 (.pointer (some ⟨b, 323, none⟩)) (rgV r)).run Tryd.prog w = .ok () (w.setCells b 323 [.int .i64 r.e, .int .u64 r.p.a, .int .u64 r.p.b, .int .u64 r.c.a, .int .u64 r.c.b, .int .u64 r.n.a, .int .u64 r.n.b]) := by
  refine run_storeAt_mid w b 323 31 #[.int .i64 r.e, .int .u64 r.p.a, .int .u64 r.p.b, .int .u64 r.c.a, .int .u64 r.c.b, .int .u64 r.n.a, .int .u64 r.n.b] (fun j hj => ?_) (by kernel_rfl) (all_oneCell_toArray (fun v hv => by simp at hv; rcases hv with rfl | rfl | rfl | rfl | rfl | rfl | rfl <;> rfl))
  have hl : j < 7 := hj
  rw [h.cr j hl]
  exact ⟨rfl, h.2.2 _⟩
end
theorem beq_sw (a b : Int) : (a == b) = (b == a) := by
  by_cases h : a = b
  · subst h; rfl
  · have h2 : ¬ b = a := fun e => h e.symm
    rw [beq_eq_false_iff_ne.2 h, beq_eq_false_iff_ne.2 h2]
/-- Slot i is not free, and stands there. -/
def atS (p : Pl) (a q : Int) (i : Nat) : Bool := (p.s i).st != 0 && (p.s i).ad == a && (p.s i).po == q
def heldB (p : Pl) (a q : Int) : Bool := (p.a == a && p.p == q) || (List.range 64).any (atS p a q)
theorem any_yes {f : Nat → Bool} (k : Nat) (hk : k < 64) (h : f k = true) : (List.range 64).any f = true := List.any_eq_true.2 ⟨k, by simpa using hk, h⟩
theorem any_no {f : Nat → Bool} (h : ∀ j, j < 64 → f j = false) : (List.range 64).any f = false := by
  rw [List.any_eq_false]
  intro j hj
  rw [h j (by simpa using hj)]
  simp
/-- Slot i takes, and stands there. -/
def tkS (p : Pl) (a q : Int) (i : Nat) : Bool := takesB (p.s i).st && (p.s i).ad == a && (p.s i).po == q
def findO (p : Pl) (a q : Int) : Option Nat := (List.range 64).find? (tkS p a q)
theorem find_yes {f : Nat → Bool} (k : Nat) (hk : k < 64) (hno : ∀ j, j < k → f j = false) (h : f k = true) : (List.range 64).find? f = some k := by
  rw [List.find?_range_eq_some]
  exact ⟨h, by simpa using hk, fun j hj => by rw [hno j hj]; rfl⟩
theorem find_no {f : Nat → Bool} (h : ∀ j, j < 64 → f j = false) : (List.range 64).find? f = none := by
  rw [List.find?_eq_none]
  intro j hj
  rw [h j (by simpa using hj)]
  simp
end Go.Proofs.YtljgcffpijjliaaDoor
