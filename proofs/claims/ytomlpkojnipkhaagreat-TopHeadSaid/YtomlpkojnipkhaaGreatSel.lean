/- A select of one case with a default, and what comes ahead of it and behind, in a walk. -/
import Derived.Test.YtomlpkojnipkhaaGreatGa
import Derived.Conc.LoneSelect
namespace Go.Proofs.YtomlpkojnipkhaaGreat
set_option linter.unusedVariables false
open Go.RowKit Go.Conc

/-- As Code.wp, of frames of plain calls alone. -/
def wpN (P : Program) (c : Code) (Q : Exit → Act → World → Prop) (a : Act) (w : World) : Prop :=
  ∀ (b : Frame) (k : List Item) (cs : List Frame), b.kind = .normal → ∃ e a' w', Q e a' w' ∧ Arrives P (lone (b.at a (.code c :: k)) cs w) b k cs e a' w'
section
variable {P : Program} {Q : Exit → Act → World → Prop} {a : Act} {w : World}
theorem wpN_of {c : Code} (h : c.wp P Q a w) : wpN P c Q a w := fun b k cs _ => h b k cs
theorem wpN_seq {x y : Code} (h : wpN P x (Exit.then (wpN P y Q) Q) a w) : wpN P (.seq x y) Q a w := by
  intro b k cs hb
  obtain ⟨e, a₁, w₁, hq, harr⟩ := h b (.code y :: k) cs hb
  cases e with
  | normal =>
    obtain ⟨e₂, a₂, w₂, hq₂, harr₂⟩ := hq b k cs hb
    exact ⟨e₂, a₂, w₂, hq₂, .of_steps (.head step_seq harr) harr₂⟩
  | exit id => exact ⟨_, a₁, w₁, hq, .of_steps (.one step_seq) (.pass (x := .code y) rfl (fun _ _ => .inl (by simp)) harr)⟩
  | goto l => exact ⟨_, a₁, w₁, hq, .of_steps (.one step_seq) (.pass (x := .code y) rfl (fun _ _ => .inl (by simp)) harr)⟩
  | ret => exact ⟨_, a₁, w₁, hq, .of_steps (.one step_seq) (.pass (x := .code y) rfl (fun _ _ => .inl (by simp)) harr)⟩
  | panic ch => exact ⟨_, a₁, w₁, hq, .of_steps (.one step_seq) (.pass (x := .code y) rfl (fun _ _ => .inl (by simp)) harr)⟩
  | outgrown => exact ⟨_, a₁, w₁, hq, .of_steps (.one step_seq) (.pass (x := .code y) rfl (fun _ _ => .inl (by simp)) harr)⟩
theorem wpN_seq_k {x y : Code} (h : ∀ K : Act → World → Prop, (∀ a w, wpN P y Q a w → K a w) → wpN P x (Exit.then K Q) a w) : wpN P (.seq x y) Q a w := wpN_seq (h _ fun _ _ h => h)
theorem calls_of_wpN {f : FuncId} {fn : Func} {c : Code} {args : Array Value} {R : Ending → World → Prop} (hf : P.funcs[f]? = some fn) (hb : fn.body = some c)
    (h : wpN P c (bodyPost P fn R) { tmps := args ++ Array.replicate (fn.ntmps - args.size) undef, defers := [] } w) : Calls P f args w R := by
  intro cs
  let b : Frame := { (default : Frame) with fn := f, kind := .normal }
  have henter : Frame.enter P f args .normal = b.at { tmps := args ++ Array.replicate (fn.ntmps - args.size) undef, defers := [] } [.code c] := by
    simp [Frame.enter, Frame.at, hf, hb, b]
  obtain ⟨e, a', w', hq, harr⟩ := h b [] cs rfl
  rw [← henter] at harr
  cases e with
  | normal =>
    obtain ⟨hd, v, hr, hR⟩ := hq
    exact ⟨.returned v, w', _, hR, Steps.trans harr (.one step_end), rfl, rfl, hd, rfl, fn, hf, hr⟩
  | ret =>
    obtain ⟨hd, v, hr, hR⟩ := hq
    obtain ⟨todo, hs⟩ := harr
    exact ⟨.returned v, w', _, hR, hs, rfl, rfl, hd, rfl, fn, hf, hr⟩
  | panic chain =>
    obtain ⟨hd, hR⟩ := hq
    obtain ⟨todo, hs⟩ := harr
    exact ⟨.panicked chain, w', _, hR, hs, rfl, rfl, hd, fn, hf⟩
  | exit id => exact hq.elim
  | goto l => exact hq.elim
  | outgrown => exact ⟨.outgrown, w', b, hq, harr.resolve_left (by simp [b]), rfl, trivial⟩
/-- A region whose first operation is a select that need not wait. -/
theorem wpN_sel {id : Nat} {o : Oper} {rest : List Oper} {cases : Array CommCase} {blocking : Bool} {shape : CommShape} {v : Value} {w' : World}
    (hw : Region.wanted o (yielded (o :: rest).toArray a.tmps) = true) (hr : (execOp a.eval o).run P w = .ok (.comm cases blocking shape) w)
    (hs : ∀ (fr : Frame) (cs : List Frame) (es : Array Event), stepG P true (G fr cs) w = .comm (G fr cs) cases blocking shape w es → step P (solo (G fr cs) w) = .next (solo (G (fr.finish v) cs) w'))
    (h : wpList P (o :: rest).toArray Q rest (a.put o.dst v) w') : wpN P (.region id (o :: rest).toArray false) Q a w := by
  intro b k cs hb
  have h' : wpOps P (o :: rest).toArray Q (List.range' 1 rest.length) (a.put o.dst v) w' := by
    rw [wpOps_eq_wpList rest 1 (fun j => by simp [Nat.add_comm 1 j])]; exact h
  obtain ⟨e, a', w'', hq, harr⟩ := wp_ops _ _ _ h' b k cs
  refine ⟨e, a', w'', hq, .of_steps (.head step_region (.one ?_)) harr⟩
  have h2 := hs (b.at a (.inRegion (o :: rest).toArray (0 :: List.range' 1 rest.length) :: k)) cs _ (stepG_comm (o := o) (by simp) hw (by rw [hb]; decide) hr)
  rw [Frame.finish_at] at h2
  have e : List.range (o :: rest).toArray.size = 0 :: List.range' 1 rest.length := by
    rw [List.range_eq_range']; simp [List.range'_succ]
  rw [e]
  exact h2
theorem wpN_send {id : Nat} {o : Oper} {rest : List Oper} {c cap s r : Nat} {buf : Array Value} {u z : Value} {tm : Bool}
    (hw : Region.wanted o (yielded (o :: rest).toArray a.tmps) = true) (hr : (execOp a.eval o).run P w = .ok (.comm #[scase c u z] false .select) w)
    (hc : w.heap[c]? = some (.chan cap buf false s r tm)) (hroom : buf.size < cap)
    (h : wpList P (o :: rest).toArray Q rest (a.put o.dst (.tuple #[goInt 0, .bool false])) (w.setChan c cap (buf.push u) false (s + 1) r tm)) : wpN P (.region id (o :: rest).toArray false) Q a w :=
  wpN_sel hw hr (fun _ _ _ h => step_lone_select_send_room h hc hroom) h
theorem wpN_recv {id : Nat} {o : Oper} {rest : List Oper} {c cap s r : Nat} {buf : Array Value} {z : Value} {tm closed : Bool}
    (hw : Region.wanted o (yielded (o :: rest).toArray a.tmps) = true) (hr : (execOp a.eval o).run P w = .ok (.comm #[rcase c z] false .select) w)
    (hc : w.heap[c]? = some (.chan cap buf closed s r tm)) (hsome : 0 < buf.size)
    (h : wpList P (o :: rest).toArray Q rest (a.put o.dst (.tuple #[goInt 0, .bool true, buf.getD 0 undef])) (w.setChan c cap (buf.extract 1 buf.size) closed s (r + 1) tm)) : wpN P (.region id (o :: rest).toArray false) Q a w :=
  wpN_sel hw hr (fun _ _ _ h => step_lone_select_recv_buf h hc hsome) h
theorem wpN_recv1 {id : Nat} {o : Oper} {rest : List Oper} {c cap s r : Nat} {u : Value} {l : List Value} {z : Value} {tm closed : Bool}
    (hw : Region.wanted o (yielded (o :: rest).toArray a.tmps) = true) (hr : (execOp a.eval o).run P w = .ok (.comm #[rcase c z] false .select) w)
    (hc : w.heap[c]? = some (.chan cap (u :: l).toArray closed s r tm))
    (h : wpList P (o :: rest).toArray Q rest (a.put o.dst (.tuple #[goInt 0, .bool true, u])) (w.setChan c cap l.toArray closed s (r + 1) tm)) : wpN P (.region id (o :: rest).toArray false) Q a w := by
  refine wpN_recv hw hr hc (by simp) ?_
  have e : (u :: l).toArray.extract 1 (u :: l).toArray.size = l.toArray := by simp
  rw [e]
  exact h
theorem wpN_send1 {id : Nat} {o : Oper} {rest : List Oper} {c cap s r : Nat} {l : List Value} {u z : Value} {tm : Bool}
    (hw : Region.wanted o (yielded (o :: rest).toArray a.tmps) = true) (hr : (execOp a.eval o).run P w = .ok (.comm #[scase c u z] false .select) w)
    (hc : w.heap[c]? = some (.chan cap l.toArray false s r tm)) (hroom : l.length < cap)
    (h : wpList P (o :: rest).toArray Q rest (a.put o.dst (.tuple #[goInt 0, .bool false])) (w.setChan c cap (l ++ [u]).toArray false (s + 1) r tm)) : wpN P (.region id (o :: rest).toArray false) Q a w := by
  refine wpN_send hw hr hc (by simpa using hroom) ?_
  have e : l.toArray.push u = (l ++ [u]).toArray := by simp
  rw [e]
  exact h
theorem wpN_none {id : Nat} {o : Oper} {rest : List Oper} {c cap s r : Nat} {z : Value} {tm : Bool}
    (hw : Region.wanted o (yielded (o :: rest).toArray a.tmps) = true) (hr : (execOp a.eval o).run P w = .ok (.comm #[rcase c z] false .select) w)
    (hc : w.heap[c]? = some (.chan cap #[] false s r tm))
    (h : wpList P (o :: rest).toArray Q rest (a.put o.dst (.tuple #[goInt (-1), .bool false, z])) w) : wpN P (.region id (o :: rest).toArray false) Q a w :=
  wpN_sel hw hr (fun _ _ _ h => step_lone_select_default h hc) h
end
end Go.Proofs.YtomlpkojnipkhaaGreat

