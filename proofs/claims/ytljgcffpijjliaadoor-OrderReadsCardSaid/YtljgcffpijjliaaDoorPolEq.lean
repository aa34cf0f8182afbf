/- A pool is itself. -/
import Derived.Test.YtljgcffpijjliaaDoorPolMem
import Derived.Laws.StructEq
import Derived.BigQuiet
import Derived.Deep.RegionHeld3
import Derived.Deep.Cut
namespace Go.Proofs.YtljgcffpijjliaaDoor
set_option linter.unusedVariables false
set_option linter.unusedSimpArgs false
open Go.RowKit Go.ChangeShapes Go.WideShapes Go.ChangeAt

section
variable {P : Program}
theorem run_equalIn_arr (w : World) (d : Nat) (t elem : TypeId) (len n : Nat) (xs : Array Value) (hu : P.underlying t = some (.array len elem)) (hs : (sizeOf elem).run P w = .ok n w) (f : Nat → Value)
    (hp : ∀ i, i < len → (part elem xs (i * n)).run P w = .ok (f i) w) (he : ∀ i, i < len → (Op.equalIn d elem (f i) (f i)).run P w = .ok true w) : (Op.equalIn (d + 1) t (.agg xs) (.agg xs)).run P w = .ok true w := by
  simp only [Op.equalIn, Sem.run_bind, run_underlying hu, Result.andThen_ok, hs]
  rw [Std.Legacy.Range.forIn_eq_forIn_range']
  have hl : ∀ j ∈ List.range' 0 len 1, j < len := fun j hj => by simp at hj; omega
  simp only [Std.Legacy.Range.size, Nat.sub_zero, Nat.add_sub_cancel, Nat.div_one]
  revert hl
  generalize List.range' 0 len 1 = l
  intro hl
  induction l with
  | nil => simp
  | cons j l ih =>
    have hj := hl j (List.mem_cons_self ..)
    simp only [List.forIn_cons, Sem.run_bind, hp j hj, Result.andThen_ok, he j hj, Bool.not_true, Bool.false_eq_true, if_false, Sem.run_pure]
    exact ih (fun i hi => hl i (List.mem_cons_of_mem _ hi))
end
theorem eq_sp (d : Nat) (s : Sp) (w : World) : (Op.equalIn (d + 3) 25 (spV s) (spV s)).run Tryd.prog w = .ok true w := by
  unfold spV
  simp [go_sem]
theorem eq_rg (d : Nat) (r : Rg) (w : World) : (Op.equalIn (d + 4) 31 (rgV r) (rgV r)).run Tryd.prog w = .ok true w := by
  unfold rgV
  simp [go_sem]
theorem part_sl (f : Nat → Sp) (i : Nat) (hi : i < 64) (w : World) : (part 25 (SA f) (i * 5)).run Tryd.prog w = .ok (spV (f i)) w := by
  have h := index_sl f i hi w
  have hu := run_underlying (P := Tryd.prog) Tryd.underlying26 w
  have hsz : (sizeOf 25).run Tryd.prog w = .ok 5 w := by kernel_rfl
  simp only [Instr.index, asIntOf, Sem.run_bind, Sem.run_pure, Result.andThen_ok, hu] at h
  rw [if_pos (by omega)] at h
  simpa only [Sem.run_bind, hsz, Result.andThen_ok, Int.toNat_natCast] using h
theorem eq_sl (d : Nat) (f : Nat → Sp) (w : World) : (Op.equalIn (d + 4) 26 (.agg (SA f)) (.agg (SA f))).run Tryd.prog w = .ok true w :=
  run_equalIn_arr w (d + 3) 26 25 64 5 (SA f) Tryd.underlying26 (by kernel_rfl) (fun i => spV (f i)) (fun i hi => part_sl f i hi w) (fun i _ => eq_sp d (f i) w)
theorem part_pl (p : Pl) (w : World) : (part 3 (PA p) 0).run Tryd.prog w = .ok (.int .i64 p.v) w ∧ (part 3 (PA p) 1).run Tryd.prog w = .ok (.int .i64 p.a) w ∧ (part 3 (PA p) 2).run Tryd.prog w = .ok (.int .i64 p.p) w ∧
    (part 26 (PA p) 3).run Tryd.prog w = .ok (.agg (SA p.s)) w ∧ (part 31 (PA p) 323).run Tryd.prog w = .ok (rgV p.r) w := by
  have ai : (isAgg 3).run Tryd.prog w = .ok false w := by kernel_rfl
  have aa : (isAgg 26).run Tryd.prog w = .ok true w := by kernel_rfl
  have ar : (isAgg 31).run Tryd.prog w = .ok true w := by kernel_rfl
  have sa : (sizeOf 26).run Tryd.prog w = .ok 320 w := by kernel_rfl
  have sr : (sizeOf 31).run Tryd.prog w = .ok 7 w := by kernel_rfl
  have e0 := pa_at p 0 (by omega)
  have e1 := pa_at p 1 (by omega)
  have e2 := pa_at p 2 (by omega)
  have hs := pa_size p
  have x1 : (PA p).extract 3 (3 + 320) = SA p.s := by
    apply Array.ext
    · simp [hs, SA, sl_len]
    · intro j h1 h2
      have hj : j < 320 := by simpa [SA, sl_len] using h2
      rw [Array.getElem_extract]
      have h3 := pa_at p (3 + j) (by omega)
      rw [Array.getElem?_eq_getElem (by omega)] at h3
      rw [Option.some.inj h3]
      have h4 : (SA p.s)[j]? = some (spc (p.s (j / 5)) (j % 5)) := by unfold SA; rw [List.getElem?_toArray, sl_at p.s j hj]
      rw [Array.getElem?_eq_getElem h2] at h4
      rw [Option.some.inj h4]
      have := pc_slot p (j / 5) (j % 5) (by omega) (by omega)
      rw [show 3 + j / 5 * 5 + j % 5 = 3 + j by omega] at this
      exact this
  have x2 : (PA p).extract 323 (323 + 7) = #[.int .i64 p.r.e, .int .u64 p.r.p.a, .int .u64 p.r.p.b, .int .u64 p.r.c.a, .int .u64 p.r.c.b, .int .u64 p.r.n.a, .int .u64 p.r.n.b] := by
    apply Array.ext
    · simp [hs]
    · intro j h1 h2
      have hj : j < 7 := by simpa using h2
      rw [Array.getElem_extract]
      have h3 := pa_at p (323 + j) (by omega)
      rw [Array.getElem?_eq_getElem (by omega)] at h3
      rw [Option.some.inj h3, pc_ring p j hj]
      rcases j with _ | _ | _ | _ | _ | _ | _ | j
      · rfl
      · rfl
      · rfl
      · rfl
      · rfl
      · rfl
      · rfl
      · omega
  refine ⟨?_, ?_, ?_, ?_, ?_⟩
  · simp only [part, Sem.run_bind, ai, Result.andThen_ok, Bool.false_eq_true, if_false, e0]; rfl
  · simp only [part, Sem.run_bind, ai, Result.andThen_ok, Bool.false_eq_true, if_false, e1]; rfl
  · simp only [part, Sem.run_bind, ai, Result.andThen_ok, Bool.false_eq_true, if_false, e2]; rfl
  · simp only [part, Sem.run_bind, aa, Result.andThen_ok, if_true, sa, x1, Sem.run_pure]
  · simp only [part, Sem.run_bind, ar, Result.andThen_ok, if_true, sr, x2, Sem.run_pure]; rfl
theorem eqF_step {P : Program} {w : World} {d : Nat} {xs ys : Array Value} {f : Field} {fs : List Field} {a b : Value} {r : Bool} (hn : f.name ≠ "_") (ha : (part f.type xs f.offset).run P w = .ok a w) (hb : (part f.type ys f.offset).run P w = .ok b w) (he : (Op.equalIn d f.type a b).run P w = .ok true w)
    (hr : (Op.eqFields d xs ys fs).run P w = .ok r w) : (Op.eqFields d xs ys (f :: fs)).run P w = .ok r w := by
  simp only [Op.eqFields]
  rw [if_pos hn]
  simp only [Sem.run_bind, ha, hb, he, Result.andThen_ok, Bool.not_true, Bool.false_eq_true, if_false]
  exact hr
theorem eq_pl (p : Pl) (w : World) : (Op.equalIn 10000 33 (.agg (PA p)) (.agg (PA p))).run Tryd.prog w = .ok true w := by
  obtain ⟨q0, q1, q2, q3, q4⟩ := part_pl p w
  have hu := Tryd.underlying33
  have hS : ∀ d, (Op.equalIn (d + 4) 26 (.agg (SA p.s)) (.agg (SA p.s))).run Tryd.prog w = .ok true w := fun d => eq_sl d p.s w
  have hR : ∀ d, (Op.equalIn (d + 4) 31 (rgV p.r) (rgV p.r)).run Tryd.prog w = .ok true w := fun d => eq_rg d p.r w
  have hS1 := hS 9995
  have hR1 := hR 9995
  have hi : ∀ x : Int, (Op.equalIn 9999 3 (.int .i64 x) (.int .i64 x)).run Tryd.prog w = .ok true w := fun x => by
    rw [run_equalIn_int w 9998 3 .i64 .i64 x x Tryd.underlying3, beq_self_eq_true]
  rw [run_equalIn_struct w 9999 33 (PA p) (PA p) (by unfold Program.fieldsOf; rw [hu]) (by kernel_rfl)]
  unfold Program.fieldsOf
  rw [hu]
  show (Op.eqFields 9999 (PA p) (PA p) (_ :: _ :: _ :: _ :: _ :: [])).run Tryd.prog w = .ok true w
  refine eqF_step (by decide) q0 q0 (hi _) ?_
  refine eqF_step (by decide) q1 q1 (hi _) ?_
  refine eqF_step (by decide) q2 q2 (hi _) ?_
  refine eqF_step (by decide) q3 q3 hS1 ?_
  refine eqF_step (by decide) q4 q4 hR1 ?_
  rfl
theorem eqg_pl (op : BinOp) (x y : Operand) (p q : Pl) (w : World) : (eqGuard op 33 x y (.agg (PA p)) (.agg (PA q))).run Tryd.prog w = .ok () w := run_eqGuard_agg w _ _ _ _ _ _ (by kernel_rfl)
/-- Two pools that are one: they are told to be the same. -/
theorem ex_eql {o : Oper} {f : Operand → Value} (x y : Operand) (ho : o.op = .binOp .eql 33 x y 33) (p : Pl) (hx : f x = .agg (PA p)) (hy : f y = .agg (PA p)) (w : World) : (execOp f o).run Tryd.prog w = .ok (.value (.bool true)) w := by
  unfold execOp
  simp only [ho, hx, hy, Sem.run_bind, eqg_pl, Result.andThen_ok, run_eql_struct, eq_pl, Sem.run_pure]
theorem ex_neql {o : Oper} {f : Operand → Value} (x y : Operand) (ho : o.op = .binOp .neq 33 x y 33) (p : Pl) (hx : f x = .agg (PA p)) (hy : f y = .agg (PA p)) (w : World) : (execOp f o).run Tryd.prog w = .ok (.value (.bool false)) w := by
  unfold execOp
  simp only [ho, hx, hy, Sem.run_bind, eqg_pl, Result.andThen_ok, run_neq_struct, eq_pl, Sem.run_pure]
  rfl
end Go.Proofs.YtljgcffpijjliaaDoor
